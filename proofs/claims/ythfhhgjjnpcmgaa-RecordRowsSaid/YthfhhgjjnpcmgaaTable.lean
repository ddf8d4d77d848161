/-
  CONTRACT OF 'makeTable' of layer 2: the table holds what eight steps make of each number below 256.
-/
import Derived.Test.YthfhhgjjnpcmgaaSmr
import Derived.IntWalk
namespace Go.Proofs.Ythfhhgjjnpcmgaa
set_option linter.unusedVariables false
set_option linter.unusedSimpArgs false
open Go.RowKit

/-- Behind so many numbers: the cells of the table that are laid; the rest of the block is as it was. -/
structure Part (w w' : World) (g m : Nat) : Prop where
  only : Only g w w'
  out : ∀ j, j < 3 ∨ 259 ≤ j → w'.cell? ⟨g, j, none⟩ = w.cell? ⟨g, j, none⟩
  laid : ∀ i, i < m → w'.cell? ⟨g, 3 + i, none⟩ = some (.int .u32 (stps 8 i : Nat))
  more : ∀ i, m ≤ i → i < 256 → ∃ v, w'.cell? ⟨g, 3 + i, none⟩ = some v
theorem Part.zero {w : World} {g : Nat} (h : ∀ i, i < 256 → ∃ v, w.cell? ⟨g, 3 + i, none⟩ = some v) : Part w w g 0 :=
  ⟨Only.refl _ _, fun _ _ => rfl, fun i hi => absurd hi (by omega), fun i _ hi => h i hi⟩
theorem off_ne {g i j : Nat} (h : i ≠ j) : (⟨g, i, none⟩ : Addr) ≠ ⟨g, j, none⟩ := fun e => h (by injection e)
theorem Part.next {w w' : World} {g m : Nat} (p : Part w w' g m) (hm : m < 256) : Part w (w'.setCell ⟨g, 3 + m, none⟩ (.int .u32 (stps 8 m : Nat))) g (m + 1) := by
  obtain ⟨v, hv⟩ := p.more m (Nat.le_refl _) hm
  refine ⟨p.only.setCell _ _, fun j hj => ?_, fun i hi => ?_, fun i hi h2 => ?_⟩
  · rw [World.cell?_setCell_other _ _ _ _ (off_ne (by omega))]; exact p.out j hj
  · by_cases e : i = m
    · subst e; exact World.cell?_setCell_same _ _ _ hv
    · rw [World.cell?_setCell_other _ _ _ _ (off_ne (by omega))]; exact p.laid i (by omega)
  · rw [World.cell?_setCell_other _ _ _ _ (off_ne (by omega))]; exact p.more i (by omega) h2

theorem and1 (x : Nat) (hx : x < 4294967296) : bits .and .u32 (x : Int) 1 = ((x % 2 : Nat) : Int) := by
  rw [← Nat.and_one_is_mod]
  exact u32_and_nat x 1 hx (by omega)
theorem xorP (x : Nat) (hx : x < 4294967296) : bits .xor .u32 ((x : Int) / 2) 3988292384 = ((x / 2 ^^^ 3988292384 : Nat) : Int) := by
  have := u32_xor_nat (x / 2) 3988292384 (by omega) (by omega)
  simpa using this
theorem stp_odd {x : Nat} (h : x % 2 = 1) : stp x = x / 2 ^^^ 3988292384 := by unfold stp; rw [if_pos h]
theorem stp_even' {x : Nat} (h : ¬ x % 2 = 1) : stp x = x / 2 := by unfold stp; rw [if_neg h]

set_option maxRecDepth 100000 in
set_option maxHeartbeats 1600000 in
theorem table_any (g : Nat) (w : World) (hf : ∀ j, w.frozen? ⟨g, j, none⟩ = false) (h : ∀ i, i < 256 → ∃ v, w.cell? ⟨g, 3 + i, none⟩ = some v) :
    Calls Try.prog 33 #[.pointer (some ⟨g, 0, none⟩)] w fun e w' => e = .returned (.tuple #[]) ∧ Part w w' g 256 := by
  have H0 := Part.zero h
  have HF := Lib.hid hf
  clear hf h
  go_enter Try.func33, Try.ntmps33
  go_wp2
  go_loopw [5] (fun i wr => ∃ m : Nat, m ≤ 256 ∧ i = .int .i64 m ∧ Part w wr g m) (fun i _ => 256 - (intOf i).toNat)
  case atStart => exact ⟨0, Nat.zero_le _, rfl, H0⟩
  case round =>
    obtain ⟨m, hm, rfl, hp⟩ := hrel
    have hfz : wr.frozen? ⟨g, 3 + m, none⟩ = false := (hp.only.frozen _).trans (HF.out _)
    by_cases hlt : m < 256
    · go_wp2
      go_loop [3, 10] (fun n j => ∃ q : Nat, q ≤ 8 ∧ j = .int .i64 q ∧ n = .int .u32 (stps q m : Nat)) (fun _ j => 8 - (intOf j).toNat)
      case atStart => exact ⟨0, Nat.zero_le _, rfl, rfl⟩
      case round =>
        obtain ⟨q, hq, rfl, rfl⟩ := hrel
        have hx : stps q m < 4294967296 := stps_lt (by omega) q
        obtain ⟨x, hx0⟩ : ∃ x, x = stps q m := ⟨_, rfl⟩
        rw [← hx0] at hx ⊢
        have HX := Lib.hid hx0
        clear hx0
        by_cases hq8 : q < 8
        · have ha := and1 x hx
          have hp2 := xorP x hx
          by_cases ho : x % 2 = 1
          · have hs := stp_odd ho
            rw [ho] at ha
            have HO := Lib.hid ho
            have HS := Lib.hid hs
            clear ho hs
            have hne : (((1 : Nat) : Int) != 0) = true := rfl
            go_wp2
            go_round
            case rel => exact ⟨q + 1, by omega, by go_num, by rw [← HS.out]; simp only [stps, ← HX.out]⟩
            case measure => simp [intOf]; omega
          · have hs := stp_even' ho
            have h0 : x % 2 = 0 := by omega
            rw [h0] at ha
            have HO := Lib.hid ho
            have HS := Lib.hid hs
            clear ho hs h0
            go_wp2
            go_round
            case rel => exact ⟨q + 1, by omega, by go_num, by simp only [stps, ← HX.out]; rw [HS.out]; simp⟩
            case measure => simp [intOf]; omega
        · obtain rfl : q = 8 := by omega
          obtain ⟨v, hv⟩ := hp.more m (Nat.le_refl _) hlt
          go_wp2
          go_roundw
          case rel => exact ⟨m + 1, by omega, by go_num, by rw [HX.out]; exact hp.next hlt⟩
          case measure => simp [intOf]; omega
    · obtain rfl : m = 256 := by omega
      go_wp2
      go_end0
      exact ⟨rfl, hp⟩
end Go.Proofs.Ythfhhgjjnpcmgaa
