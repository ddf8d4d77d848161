/-
  Any bytes are read as the record that they begin with, or refused, as the document says; they stay. It holds for any bytes; of more than 2000 bytes it says that the document's examples hold.
-/
import Derived.Test.YthfhhgjjnpcmgaaRecAwake
import Derived.Test.YthfhhgjjnpcmgaaRecRef
import Derived.Test.YthfhhgjjnpcmgaaLent
namespace Go.Proofs.Ythfhhgjjnpcmgaa
set_option linter.unusedVariables false
set_option linter.unusedSimpArgs false
open Go.RowKit

set_option maxRecDepth 10000 in
set_option maxHeartbeats 800000 in
theorem recordGets_long (A : Option Addr) (n c : Nat) (w : World) (h : 2000 < n) (hn : n ≤ maxLen) :
    Calls Try.prog 4 #[.slice A n c] w fun e w' => e = .returned (.bool true) ∧ Below w.heap.size w w' := by
  unfold maxLen at hn
  go_enter Try.func4, Try.ntmps4
  go_wp2_with fail
  refine (awake_any _).mono ?_
  rintro e w4 ⟨rfl, hb4⟩
  go_wp2
  go_ret
  exact ⟨rfl, hb4⟩

set_option maxRecDepth 10000 in
set_option maxHeartbeats 1600000 in
theorem recordGets_short (A : Option Addr) (n c : Nat) (bs : List Int) (w : World) (h : ¬ 2000 < n) (hnc : n ≤ c) (hx : Sh w w.heap.size A n (by8 bs)) (hb : Byt bs) :
    Calls Try.prog 4 #[.slice A n c] w fun e w' => e = .returned (.bool true) ∧ Below w.heap.size w w' := by
  have hl : bs.length = n := by have := hx.len; rwa [by8_len] at this
  have hz := zeroRec
  obtain ⟨R, hR⟩ : ∃ R, rget bs = R := ⟨_, rfl⟩
  have hpl : R.pay.length ≤ 2000 := by
    rw [← hR]
    by_cases h0 : (rget bs).err = 0
    · have := rget_good h0; omega
    · unfold rget at h0 ⊢
      split at h0 <;> rename_i h1
      · rw [if_pos h1]; simp
      · rw [if_neg h1]
        split at h0 <;> rename_i h2
        · rw [if_pos h2]; simp
        · rw [if_neg h2]
          split at h0 <;> rename_i h3
          · rw [if_pos h3]; simp
          · rw [if_neg h3]
            split at h0 <;> rename_i h4
            · simp at h0
            · rw [if_neg h4]; simp
  have HR := Lib.hid hR
  have HL := Lib.hid hl
  have X := Lib.hid (fun w' (b : Below w.heap.size w w') => hx.below b)
  have HB := Lib.hid hb
  clear hx hR hl hb
  go_enter Try.func4, Try.ntmps4
  go_wp2_with (first
    | (go_at_call 12; refine (lent_any A n c bs w w.heap.size (X.out _ (Below.refl _ _)) (by omega) (Nat.le_refl _)).mono ?_; rintro e w1 ⟨G, f, rfl, ho1, b1⟩; have hcap := ho1.cap.1; have O1 := Lib.hid ho1.sh; have B1 := Lib.hid b1; clear ho1 b1)
    | (go_at_call 9; refine (new_smr _).mono ?_; rintro e w2 ⟨g, rfl, hg, s2, b2⟩; have S2 := Lib.hid s2; have C2 := Lib.hid b2; have B2 := Lib.hid (B1.out.trans (b2.mono B1.out.size)); clear s2 b2)
    | (go_at_call 13; have hh := ((O1.out.below C2.out).head (k := n) (by omega)); rw [by8_take, List.take_append_of_le_length (by rw [HL.out]; omega), List.take_of_length_le (by rw [HL.out]; omega)] at hh; refine (getr_any g 0 false G n f bs w2 w1.heap.size S2.out (by omega) (by omega) (by omega) HB.out C2.out.size hh (hh.off hg)).mono ?_; rw [HR.out]; rintro e w3 ⟨v3, d3, k3, rfl, ho3, s3, _, u3⟩; obtain ⟨P3, c3, rfl⟩ := ho3.form; have O3 := Lib.hid ho3.sh; have B3 := Lib.hid (B2.out.trans (u3.below (Nat.le_trans B1.out.size hg) B2.out.size)); have C3 := Lib.hid ((O1.out.below C2.out).upon u3 C2.out.size (O1.out.off hg)); have hlow : w1.heap.size ≤ w3.heap.size := Nat.le_trans C2.out.size u3.size; clear hh ho3 s3 u3)
    | (go_at_call 14; refine (refGet_any A n c bs _ w.heap.size hnc (by omega) HB.out (by have := B3.out.size; simp; omega) (X.out _ (B3.out.alloc B3.out.size _))).mono ?_; rw [HR.out]; rintro e w4 ⟨T, t, cc, rfl, hsh4, b4⟩; have d0 : w4.cell? ⟨w3.heap.size, 0, none⟩ = some (.int .i64 R.kind) := (b4.cell (p := ⟨w3.heap.size, 0, none⟩) (by simp)).trans (by rw [World.cell?_alloc_at _ _ _ _ rfl]; rfl); have d1 : w4.cell? ⟨w3.heap.size, 1, none⟩ = some (.slice P3 R.pay.length c3) := (b4.cell (p := ⟨w3.heap.size, 1, none⟩) (by simp)).trans (by rw [World.cell?_alloc_at _ _ _ _ rfl]; rfl); have H4 := Lib.hid hsh4; have O4 := Lib.hid ((O3.out.alloc (Nat.le_refl _) _).up b4 (by simp)); have B4 := Lib.hid ((B3.out.alloc B3.out.size _).trans (b4.mono (by have := B3.out.size; simp; omega))); have C4 := Lib.hid ((C3.out.alloc hlow _).up b4 (by simp; omega)); clear hsh4 b4)
    | (go_at_call 10; refine (same_yes P3 T R.pay.length t c3 cc R.pay R.pay w4 _ _ O4.out H4.out (by unfold maxLen; omega) rfl).mono ?_; rintro e w5 ⟨rfl, hq5⟩; have B5 := Lib.hid (B4.out.trans (hq5.below _)); have C5 := Lib.hid (C4.out.up (hq5.below w1.heap.size) (Nat.le_refl _)); clear hq5)
    | (go_at_call 15; refine (kept_yes G A n f c bs w5 _ _ C5.out hcap (X.out _ B5.out) (by omega)).mono ?_; rintro e w6 ⟨rfl, hq6⟩; have B6 := Lib.hid (B5.out.trans (hq6.below _)); clear hq6)
    | (go_at_call 7; refine (awake_any _).mono ?_; rintro e w7 ⟨rfl, b7⟩; have B7 := Lib.hid (B6.out.trans (b7.mono B6.out.size)); clear b7)
    | fail)
  go_ret
  exact ⟨rfl, B7.out⟩

theorem recordGets_walk (a0 : Option Addr) (len0 cap0 : Nat) (z0 : List Int) (w : World) (w0 : IsRow .u8 w a0 len0 cap0 z0) :
    Calls Try.prog 4 #[.slice a0 len0 cap0] w fun e w' => e = .returned (.bool true) ∧ Below w.heap.size w w' := by
  obtain ⟨l0, m0, _, s0, b0⟩ := w0.sh
  by_cases h : 2000 < len0
  · exact recordGets_long _ _ _ _ h (by omega)
  · exact recordGets_short _ _ _ _ _ h l0 s0 (byt_of b0)
end Go.Proofs.Ythfhhgjjnpcmgaa
