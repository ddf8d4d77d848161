/-
  blazonlaw07.SpanApplies is true for every input: any edits of any text do what the document says, or are refused; the text stays.
  Conditions: none beyond the statement's own (package-level variables start as the program's text lays them).
-/
import Derived.Test.YtopeechbgblndaaDoorSpW
import Derived.Test.YtopeechbgblndaaDoorSpS
import Derived.Test.YtopeechbgblndaaDoorSpG
import Derived.Test.YtopeechbgblndaaDoorSpD
import Derived.Test.YtopeechbgblndaaDoorHeld
namespace Go.Proofs.YtopeechbgblndaaDoor
set_option linter.unusedVariables false
set_option linter.unusedSimpArgs false
open Go.RowKit

theorem spanApplies_long (A P : Option Addr) (n c m d : Nat) (L : List Ed) (w : World) (h : 500 < n) (hn : n ≤ maxLen) :
    Calls Tryd.prog 3 #[.slice A n c, .slice P m d] w fun e w' => e = .returned (.bool true) ∧ Below w.heap.size w w' := by
  unfold maxLen at hn
  have h' : (500 : Int) < (n : Int) := by omega
  go_enter Tryd.func3, Tryd.ntmps3
  go_wp2_with (first
    | (go_at_call 9; refine (awake_any _).mono ?_; rintro e w1 ⟨rfl, b1⟩)
    | fail)
  go_ret
  exact ⟨rfl, b1⟩

theorem spanApplies_great (A P : Option Addr) (n c m d : Nat) (L : List Ed) (w : World) (h : ¬ 500 < n) (hx : ShE w w.heap.size P m L) (hm : m ≤ maxLen) (hs : ∀ x ∈ L, x.2.2.length ≤ maxLen) (hg : greatB L = true) :
    Calls Tryd.prog 3 #[.slice A n c, .slice P m d] w fun e w' => e = .returned (.bool true) ∧ Below w.heap.size w w' := by
  have h' : ¬ (500 : Int) < (n : Int) := by omega
  have HG := great_any P m d L w hx hm hs
  rw [hg] at HG
  have HG := Lib.hid HG
  clear hg hs hx
  go_enter Tryd.func3, Tryd.ntmps3
  go_wp2_with (first
    | (go_at_call 8; refine HG.out.mono ?_; rintro e w1 ⟨rfl, rfl⟩)
    | (go_at_call 9; refine (awake_any _).mono ?_; rintro e w1 ⟨rfl, b1⟩)
    | fail)
  go_ret
  exact ⟨rfl, b1⟩

set_option maxRecDepth 10000 in
set_option maxHeartbeats 3200000 in
theorem spanApplies_small (A P : Option Addr) (n c m d : Nat) (bs : List Int) (L : List Ed) (w : World) (h : ¬ 500 < n) (hb : Sh w w.heap.size A n (by8 bs)) (hnc : n ≤ c) (hx : ShE w w.heap.size P m L) (hm : m ≤ maxLen) (hby : BytE L) (hg : greatB L = false) :
    Calls Tryd.prog 3 #[.slice A n c, .slice P m d] w fun e w' => e = .returned (.bool true) ∧ Below w.heap.size w w' := by
  have h' : ¬ (500 : Int) < (n : Int) := by omega
  have hlb : bs.length = n := by have := hb.len; rwa [by8_len] at this
  have hl : L.length = m := hx.1
  obtain ⟨hL6, hs⟩ := great_no hg
  have HG := great_any P m d L w hx hm (fun x hx => Nat.le_trans (hs x hx) (by decide))
  rw [hg] at HG
  have HG := Lib.hid HG
  have hm6 : m ≤ 600 := by omega
  have HS := Lib.hid hs
  have HLB := Lib.hid hlb
  have HBY := Lib.hid hby
  have HX := Lib.hid (fun w' (b : Below w.heap.size w w') => hx.up b (Nat.le_refl _))
  have HBB := Lib.hid (fun w' (b : Below w.heap.size w w') => hb.below b)
  obtain ⟨ck, hck⟩ : ∃ ck, chk n L = ck := ⟨_, rfl⟩
  have HK := Lib.hid hck
  clear hg hs hlb hby hx hb hL6 hl hm hck
  go_enter Tryd.func3, Tryd.ntmps3
  go_wp2_with (first
    | (go_at_call 8; refine HG.out.mono ?_; rintro e w1 ⟨rfl, rfl⟩)
    | fail)
  refine (lent_any A n c bs w w.heap.size (HBB.out _ (Below.refl _ _)) (by omega) (Nat.le_refl _)).mono ?_
  rintro e w1 ⟨G, g, rfl, ho1, b1⟩
  have hcap := ho1.cap
  have F1 := Lib.hid ho1.sh
  have B1 := Lib.hid b1
  obtain ⟨gb, hGb⟩ : ∃ gb, G = some ⟨gb, 0, none⟩ := by
    obtain ⟨q, cap, hv, _, _⟩ := ho1.1.form (show 0 < n + 3 by omega)
    exact ⟨q, by injection hv⟩
  have HH : Hid (Sh w1 w1.heap.size G n (by8 bs)) := Lib.hid (by
    have hh := F1.out.head (k := n) (by omega)
    rwa [by8_take, List.take_append_of_le_length (by rw [HLB.out]; omega), List.take_of_length_le (by rw [HLB.out]; omega)] at hh)
  have hc1 : n + 3 ≤ g := hcap.1
  have HM := Lib.hid (apply_any G P n g m d bs L w1 HH.out ((HX.out w1 B1.out).more B1.out.size) (by omega) (by omega) hcap.2 (.inr ⟨gb, 0, hGb⟩) hm6 HS.out HBY.out)
  clear ho1 b1 hcap hGb HH HG
  go_wp2_with (fail)
  refine HM.out.mono ?_
  intro e w2 h2
  unfold ApTo at h2
  rw [HK.out] at h2
  by_cases h0 : ck = 0
  · subst h0
    rw [if_pos rfl] at h2
    obtain ⟨v2, rfl, ho2, b2⟩ := h2
    obtain ⟨A2, c2, rfl⟩ := ho2.form
    have B2 := Lib.hid (B1.out.trans (b2.mono B1.out.size))
    have F2 := Lib.hid ((F1.out.below b2).more b2.size)
    have O2 := Lib.hid ho2.sh
    clear ho2 b2
    obtain ⟨aL, haL⟩ : ∃ aL, (appl bs 0 L).length = aL := ⟨_, rfl⟩
    rw [haL] at O2 ⊢
    clear haL
    have hse : (0 != 0) = false := rfl
    go_wp2_with (first
      | (go_at_call 12; refine (rcheck_any P n m d L _ ((HX.out _ B2.out).more B2.out.size) (by omega) (by omega)).mono ?_; rw [HK.out]; rintro e w3 ⟨rfl, q3⟩; have B3 := Lib.hid (B2.out.trans (q3.below _)); have F3 := Lib.hid (F2.out.up (q3.below w2.heap.size) (Nat.le_refl _)); have O3 := Lib.hid (O2.out.up (q3.below w2.heap.size) (Nat.le_refl _)); have z3 := q3.size; clear q3)
      | (go_at_call 13; refine (check_any P n m d L _ ((HX.out _ B3.out).more B3.out.size) (by omega) (by omega)).mono ?_; rw [HK.out]; rintro e w4 ⟨rfl, b4⟩; have B4 := Lib.hid (B3.out.trans (b4.mono B3.out.size)); have F4 := Lib.hid (F3.out.up b4 (by omega)); have O4 := Lib.hid (O3.out.up b4 (by omega)); have z4 := b4.size; clear b4)
      | (go_at_call 14; refine (kept_yes G A n g c bs _ w2.heap.size w.heap.size F4.out hc1 (HBB.out _ B4.out) (by omega)).mono ?_; rintro e w5 ⟨rfl, q5⟩; have B5 := Lib.hid (B4.out.trans (q5.below _)); have O5 := Lib.hid (O4.out.up (q5.below w2.heap.size) (Nat.le_refl _)); have z5 := q5.size; clear q5)
      | fail)
    obtain ⟨S0, hS0⟩ : ∃ S0 : World → Prop, S0 = fun w' => Below w5.heap.size w5 w' := ⟨_, rfl⟩
    have HSI : Hid (∀ w', Below w5.heap.size w5 w' → S0 w') := Lib.hid fun w' b => by rw [hS0]; exact b
    have HSF : Hid (∀ w', S0 w' → Below w5.heap.size w5 w') := Lib.hid fun w' b => by rw [hS0] at b; exact b
    obtain ⟨X, hX⟩ : ∃ X, strOfNums (appl bs 0 L) = X := ⟨_, rfl⟩
    have HXE := Lib.hid hX
    obtain ⟨Y, hY⟩ : ∃ Y, strOfNums bs = Y := ⟨_, rfl⟩
    have HYE := Lib.hid hY
    have s0 : ∀ s : SW S0, (convert 22 9 (.slice A2 aL c2)).run Tryd.prog s.w = .ok (.string X) s.w := fun s => by
      have := convert_sh (O5.out.up (HSF.out _ s.h) (by omega)) c2
      rwa [hX] at this
    have s1 : ∀ s : SW S0, (convert 22 9 (.slice A n c)).run Tryd.prog s.w = .ok (.string Y) s.w := fun s => by
      have := convert_sh (HBB.out _ (B5.out.trans ((HSF.out _ s.h).mono B5.out.size))) c
      rwa [hY] at this
    have HRA : Hid (Calls Tryd.prog 15 #[.string Y, .slice P m d] w5.drew fun e w' => e = .returned (.string X) ∧ Quiet w5.drew w') := Lib.hid (by
      have := rapply_any P m d bs L w5.drew (((HX.out _ B5.out).more B5.out.size).up ((Quiet.one w5 1).below w5.heap.size) (Nat.le_refl _)) (by rw [HLB.out]; omega) hm6 (by rw [HLB.out]; exact WOk_zero (chk_zero HK.out).2) (fun x hx => Nat.le_trans (HS.out x hx) (by decide))
      rw [hX, hY] at this
      exact this)
    have XX : (X.toList == X.toList) = true := by simp
    have hS1 : S0 w5.drew := HSI.out _ ⟨rfl, rfl, rfl, Nat.le_refl _, fun _ _ => rfl⟩
    clear hX hY hS0
    refine regionL_start (by kernel_rfl) 11 rfl S0 10 ?_
    refine wpL_next 0 5 6 (by kernel_rfl) (fun _ _ d _ _ h => by cases d <;> exact h) hS1 (fun hne => ?_)
    simp only [List.drop_succ_cons, List.drop_zero, List.take_succ_cons, List.take_zero]
    repeat (go_big_quiet_step (fail))
    refine wpQuiet_nil ?_
    refine wpL_one (i := 5) (fuel := 5) (by kernel_rfl) rfl (fun KK hKK => ?_)
    go_simp
    refine HRA.out.mono ?_
    rintro e w6 ⟨rfl, ⟨q, rfl⟩⟩
    have hS2 : S0 (w5.drew.drewN q) := HSI.out _ ⟨rfl, rfl, rfl, Nat.le_refl _, fun _ _ => rfl⟩
    refine hKK _ _ hS2 ?_
    clear hKK KK
    refine wpL_next 6 2 3 (by kernel_rfl) (fun _ _ d _ _ h => by cases d <;> exact h) hS2 (fun hne => ?_)
    simp only [List.drop_succ_cons, List.drop_zero, List.take_succ_cons, List.take_zero]
    repeat (go_big_quiet_step (fail))
    refine wpQuiet_nil ?_
    refine wpL_one (i := 8) (fuel := 2) (by kernel_rfl) rfl (fun KK hKK => ?_)
    go_simp
    refine (awake_any _).mono ?_
    rintro e w7 ⟨rfl, b7⟩
    have B7 : Hid (Below w5.heap.size w5 w7) := Lib.hid (((Quiet.one w5 (1 + q)).below _).trans (b7.mono (Nat.le_refl _)))
    refine hKK _ _ (HSI.out _ B7.out) ?_
    clear hKK KK
    refine wpL_next 9 1 1 (by kernel_rfl) (fun _ _ d _ _ h => by cases d <;> exact h) (HSI.out _ B7.out) (fun hne => ?_)
    simp only [List.drop_succ_cons, List.drop_zero, List.take_succ_cons, List.take_zero]
    repeat (go_big_quiet_step (fail))
    refine wpQuiet_nil ?_
    refine wpL_last (fuel := 0) (by kernel_rfl) (by kernel_rfl) rfl (fun KK hKK => ?_)
    go_simp
    refine hKK _ _ ?_
    clear hKK KK
    go_wp2
    go_ret
    exact ⟨rfl, B5.out.trans (B7.out.mono B5.out.size)⟩
  · rw [if_neg h0] at h2
    obtain ⟨rfl, b2⟩ := h2
    have B2 := Lib.hid (B1.out.trans (b2.mono B1.out.size))
    have F2 := Lib.hid ((F1.out.below b2).more b2.size)
    clear b2
    have hne : (ck != 0) = true := by simpa using h0
    have hse : (ck != ck) = false := by simp
    clear h0
    go_wp2_with (first
      | (go_at_call 12; refine (rcheck_any P n m d L _ ((HX.out _ B2.out).more B2.out.size) (by omega) (by omega)).mono ?_; rw [HK.out]; rintro e w3 ⟨rfl, q3⟩; have B3 := Lib.hid (B2.out.trans (q3.below _)); have F3 := Lib.hid (F2.out.up (q3.below w2.heap.size) (Nat.le_refl _)); have z3 := q3.size; clear q3)
      | (go_at_call 13; refine (check_any P n m d L _ ((HX.out _ B3.out).more B3.out.size) (by omega) (by omega)).mono ?_; rw [HK.out]; rintro e w4 ⟨rfl, b4⟩; have B4 := Lib.hid (B3.out.trans (b4.mono B3.out.size)); have F4 := Lib.hid (F3.out.up b4 (by omega)); have z4 := b4.size; clear b4)
      | (go_at_call 14; refine (kept_yes G A n g c bs _ w2.heap.size w.heap.size F4.out hc1 (HBB.out _ B4.out) (by omega)).mono ?_; rintro e w5 ⟨rfl, q5⟩; have B5 := Lib.hid (B4.out.trans (q5.below _)); clear q5)
      | (go_at_call 9; refine (awake_any _).mono ?_; rintro e w6 ⟨rfl, b6⟩)
      | fail)
    go_ret
    exact ⟨rfl, B5.out.trans (b6.mono B5.out.size)⟩

theorem spanApplies_walk (a0 : Option Addr) (len0 cap0 : Nat) (zs : List Int) (a1 : Option Addr) (len1 cap1 : Nat) (L : List Ed) (w : World) (w0 : IsRow .u8 w a0 len0 cap0 zs) (hm : len1 ≤ maxLen) (hx : ShE w w.heap.size a1 len1 L) (hby : BytE L) (hs : ∀ x ∈ L, x.2.2.length ≤ maxLen) :
    Calls Tryd.prog 3 #[.slice a0 len0 cap0, .slice a1 len1 cap1] w fun e w' => e = .returned (.bool true) ∧ Below w.heap.size w w' := by
  obtain ⟨l0, m0, _, s0, b0⟩ := w0.sh
  by_cases h : 500 < len0
  · exact spanApplies_long _ _ _ _ _ _ L w h (by omega)
  · cases hg : greatB L with
    | true => exact spanApplies_great _ _ _ _ _ _ L w h hx hm hs hg
    | false => exact spanApplies_small _ _ _ _ _ _ _ L w h s0 l0 hx hm hby hg
end Go.Proofs.YtopeechbgblndaaDoor
