/-
  CONTRACTS OF the document's own sum, 'blazonref02.More' and 'blazonref02.Of'.
-/
import Derived.Test.YthfhhgjjnpcmgaaMore
namespace Go.Proofs.Ythfhhgjjnpcmgaa
set_option linter.unusedVariables false
set_option linter.unusedSimpArgs false
open Go.RowKit

theorem val_int {k : IntKind} {a b : Int} (h : a = b) : Value.int k a = .int k b := by rw [h]

set_option maxRecDepth 100000 in
set_option maxHeartbeats 1600000 in
theorem ref_any (s : Nat) (A : Option Addr) (n c : Nat) (xs : List Int) (w : World) (U : Nat) (hs : s < 4294967296) (hx : Sh w U A n (by8 xs)) (hb : Byt xs) (hn : n ≤ 1000000) :
    Calls Try.prog 30 #[.int .u32 (s : Int), .slice A n c] w fun e w' => e = .returned (.int .u32 (crcOf s xs : Nat)) ∧ w = w' := by
  have hnl : xs.length = n := by have := hx.len; rwa [by8_len] at this
  have HN := Lib.hid hnl
  have HX := Lib.hid hx
  have HB := Lib.hid hb
  clear hnl hx hb
  go_enter Try.func30, Try.ntmps30
  go_wp2
  go_loop [5, 6] (fun x i => ∃ q : Nat, q ≤ n ∧ i = .int .i64 q ∧ x = .int .u32 (fld (4294967295 - s) (xs.take q) : Nat)) (fun _ i => n - (intOf i).toNat)
  case atStart => exact ⟨0, Nat.zero_le _, rfl, val_int (by rw [List.take_zero, fld_nil]; omega)⟩
  case round =>
    obtain ⟨q, hq, rfl, rfl⟩ := hrel
    have hx : fld (4294967295 - s) (xs.take q) < 4294967296 := fld_lt (by omega) (HB.out.take q)
    have HQ := Lib.hid (fld_snoc (4294967295 - s) (xs.take q) (xs.getD q 0))
    obtain ⟨x, hx0⟩ : ∃ x, x = fld (4294967295 - s) (xs.take q) := ⟨_, rfl⟩
    rw [← hx0] at hx ⊢
    have HX0 := Lib.hid hx0
    clear hx0
    by_cases hlt : q < n
    · obtain ⟨b, off, rfl, hb, hcell⟩ := HX.out.byte hlt
      have hy := HB.out.at (k := q) (by rw [HN.out]; exact hlt)
      have HTS := Lib.hid (take_snoc' xs q (by rw [HN.out]; exact hlt))
      obtain ⟨y, hy0⟩ : ∃ y : Nat, xs.getD q 0 = (y : Int) := ⟨(xs.getD q 0).toNat, by omega⟩
      rw [hy0] at hy hcell
      have HY := Lib.hid hy0
      clear hy0
      have hy2 : y < 256 := by omega
      have h8 := u32_xor_nat x y hx (by omega)
      have hz : x ^^^ y < 4294967296 := xor_lt32 hx (by omega)
      obtain ⟨z, hz0⟩ : ∃ z, z = x ^^^ y := ⟨_, rfl⟩
      rw [← hz0] at h8 hz
      have HZ := Lib.hid hz0
      clear hz0
      go_wp2
      go_loop [5, 7] (fun v j => ∃ p : Nat, p ≤ 8 ∧ j = .int .i64 p ∧ v = .int .u32 (stps p z : Nat)) (fun _ j => 8 - (intOf j).toNat)
      case atStart => exact ⟨0, Nat.zero_le _, rfl, rfl⟩
      case round =>
        obtain ⟨p, hp, rfl, rfl⟩ := hrel
        have hv : stps p z < 4294967296 := stps_lt hz p
        obtain ⟨v, hv0⟩ : ∃ v, v = stps p z := ⟨_, rfl⟩
        rw [← hv0] at hv ⊢
        have HV := Lib.hid hv0
        clear hv0
        by_cases hp8 : p < 8
        · have hp2 := xorP v hv
          by_cases ho : v % 2 = 1
          · have HS := Lib.hid (stp_odd ho)
            have hne : ((v : Int) % 2 == 1) = true := by simp; omega
            clear ho
            go_wp2
            go_round
            case rel => exact ⟨p + 1, by omega, by go_num, by rw [← HS.out]; simp only [stps, ← HV.out]⟩
            case measure => simp [intOf]; omega
          · have HS := Lib.hid (stp_even' ho)
            have hne : ((v : Int) % 2 == 1) = false := by simp; omega
            clear ho
            go_wp2
            go_round
            case rel => exact ⟨p + 1, by omega, by go_num, by simp only [stps, ← HV.out]; rw [HS.out]; simp⟩
            case measure => simp [intOf]; omega
        · obtain rfl : p = 8 := by omega
          go_wp2
          go_round
          case rel =>
            refine ⟨q + 1, by omega, by go_num, val_u32 ?_⟩
            have e := HQ.out
            rw [← HTS.out, ← HX0.out, HY.out, Int.toNat_natCast, ← HZ.out, ← HV.out] at e
            exact e.symm
          case measure => simp [intOf]; omega
    · obtain rfl : q = n := by omega
      go_wp2
      go_ret
      refine ⟨?_, rfl⟩
      have e := HX0.out
      rw [List.take_of_length_le (by rw [HN.out]; exact Nat.le_refl _)] at e
      have e2 : ((crcOf s xs : Nat) : Int) = 4294967295 - (x : Int) := by unfold crcOf; rw [← e]; omega
      rw [e2]
      rfl
/-- 'blazonref02.Of'. -/
theorem refOf_any (A : Option Addr) (n c : Nat) (xs : List Int) (w : World) (U : Nat) (hx : Sh w U A n (by8 xs)) (hb : Byt xs) (hn : n ≤ 1000000) :
    Calls Try.prog 23 #[.slice A n c] w fun e w' => e = .returned (.int .u32 (crcOf 0 xs : Nat)) ∧ w = w' := by
  have HM := Lib.hid (ref_any 0 A n c xs w U (by omega) hx hb hn)
  clear hx hb
  go_enter Try.func23, Try.ntmps23
  go_wp2_with (go_at_call 30; refine HM.out.mono ?_; rintro e w1 ⟨rfl, rfl⟩)
  go_ret
  exact ⟨rfl, rfl⟩
end Go.Proofs.Ythfhhgjjnpcmgaa
