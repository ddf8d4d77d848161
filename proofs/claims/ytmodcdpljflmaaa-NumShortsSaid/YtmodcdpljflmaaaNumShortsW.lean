/-
  Any number's short form, behind any bytes, is laid by its digits; any bytes are read as the number whose short form they begin with, or refused, just as digit by digit; they stay, also behind their end. It holds for every number of 64 bits and any bytes; of more than 2000 bytes it says that the document's examples hold.
-/
import Derived.Test.YtmodcdpljflmaaaNumLongerW
import Derived.Test.YtmodcdpljflmaaaGetShort
import Derived.Test.YtmodcdpljflmaaaLent
import Derived.Test.YtmodcdpljflmaaaRegion
namespace Go.Proofs.Ytmodcdpljflmaaa
set_option linter.unusedVariables false
set_option linter.unusedSimpArgs false
open Go.RowKit Go.BigFrame

set_option maxRecDepth 100000 in
set_option maxHeartbeats 800000 in
theorem numShorts_long (n : Nat) (A : Option Addr) (l c : Nat) (w : World) (h : 2000 < l) (hl : l ≤ maxLen) :
    Calls Try.prog 3 #[.int .u64 n, .slice A l c] w fun e w' => e = .returned (.bool true) ∧ Below w.heap.size w w' := by
  unfold maxLen at hl
  go_enter Try.func3, Try.ntmps3
  go_wp2_with fail
  refine (awake_any _).mono ?_
  rintro e w4 ⟨rfl, hb4⟩
  go_wp2
  go_ret
  exact ⟨rfl, hb4⟩

set_option maxRecDepth 100000 in
set_option maxHeartbeats 800000 in
theorem numShorts_short (n : Nat) (A : Option Addr) (l c : Nat) (xs : List Int) (w : World) (hn : U64 n) (h : ¬ 2000 < l) (hm : Sh w w.heap.size A l (by8 xs)) (hby : Bytes xs) :
    Calls Try.prog 3 #[.int .u64 n, .slice A l c] w fun e w' => e = .returned (.bool true) ∧ Below w.heap.size w w' := by
  have hmax : (l : Int) ≤ 2000 := by omega
  have hxl : xs.length = l := by have := hm.len; rwa [by8_len] at this
  have HX := Lib.hid hxl
  clear hxl
  obtain ⟨gn, gu, ge, hg⟩ : ∃ a b c, gets xs 0 0 = (a, b, c) := ⟨_, _, _, rfl⟩
  have HG := Lib.hid hg
  clear hg
  have h10 := short_ten hn
  go_enter Try.func3, Try.ntmps3
  go_wp2_with fail
  refine (lent_any A l c xs w w.heap.size hm (by omega) (Nat.le_refl _)).mono ?_
  rintro e w1 ⟨G, g, rfl, ho1, hb1⟩
  have hgc := ho1.cap.1
  have hG1 : Sh w1 w1.heap.size G l (by8 xs) := by
    have := ho1.sh.head (k := l) (by omega)
    rwa [by8_take, List.take_append_of_le_length (by rw [HX.out]; exact Nat.le_refl _), List.take_of_length_le (by rw [HX.out]; exact Nat.le_refl _)] at this
  go_wp2_with fail
  refine (get_of G l g xs w1 w1.heap.size gn gu ge ge hG1 (by omega) hby HG.out rfl).mono ?_
  rintro e w2 ⟨rfl, hq2⟩
  go_wp2_with fail
  refine (getShort_of A l c xs w2 w.heap.size gn gu ge ((hm.below hb1).below (hq2.below _)) (by omega) hby HG.out).mono ?_
  rintro e w3 ⟨rfl, hq3⟩
  go_wp2_with fail
  have hq13 : Quiet w1 w3 := hq2.trans hq3
  refine (put_any G l l xs n w3 w1.heap.size (hG1.below (hq13.below _)) (by omega) hn).mono ?_
  rintro e w4 ⟨v4, rfl, ho4, hb4⟩
  obtain ⟨F, f, rfl⟩ := ho4.form
  have hfc := ho4.cap.1
  have hb34 : Below w1.heap.size w3 w4 := hb4.mono (by rw [hq13.size]; exact Nat.le_refl _)
  have hbw4 : Below w.heap.size w w4 := (hb1.trans (hq13.below _)).trans (hb34.mono hb1.size)
  have k1 : Sh w4 w1.heap.size G (l + 3) (by8 (xs ++ [77, 78, 79])) := (ho1.sh.below (hq13.below _)).below hb34
  have k2 : Sh w4 w.heap.size A l (by8 xs) := hm.below hbw4
  have k3 := ho4.sh
  have hpos := short_pos n
  obtain ⟨b, off, rfl, hbl, hcells⟩ := k3.2 (by omega)
  have k4 : Sh w4 w4.heap.size (some ⟨b, off, none⟩) l (by8 xs) := by
    have := k3.head (k := l) (by omega)
    rwa [by8_take, List.take_append_of_le_length (by rw [HX.out]; exact Nat.le_refl _), List.take_of_length_le (by rw [HX.out]; exact Nat.le_refl _)] at this
  have k5 : Sh w4 w4.heap.size (some ⟨b, off + l, none⟩) (short n).length (by8 (short n)) := by
    have := k3.piece (lo := l) (hi := l + (short n).length) (A' := some ⟨b, off + l, none⟩) (by omega) (Nat.le_refl _) (fun b' off' e _ => by cases e; rfl)
    rw [Nat.add_sub_cancel_left, by8_take, by8_drop, List.take_of_length_le (by rw [List.length_append, HX.out]; exact Nat.le_refl _)] at this
    have e : (xs ++ short n).drop l = short n := by rw [← HX.out, List.drop_left]
    rwa [e] at this
  have s1 := hq13.size
  have s2 := hb1.size
  have s4 : w1.heap.size ≤ w4.heap.size := by have := hb34.size; omega
  have hK : ∀ W, Below w4.heap.size w4 W → Calls Try.prog 13 #[.slice G l g, .slice A l c] W fun e w' => e = .returned (.bool true) ∧ Below w4.heap.size w4 w' := fun W hB =>
    (kept_yes G A l g c xs W w1.heap.size w.heap.size (k1.up hB s4) hgc (k2.up hB (by omega)) (by omega)).mono fun _ _ ⟨he, hq⟩ => ⟨he, hB.trans (hq.below _)⟩
  have hS1 : ∀ W, Below w4.heap.size w4 W → Calls Try.prog 14 #[.slice (some ⟨b, off, none⟩) l f, .slice A l c] W fun e w' => e = .returned (.bool true) ∧ Below w4.heap.size w4 w' := fun W hB =>
    (same_yes (some ⟨b, off, none⟩) A l l f c xs xs W w4.heap.size w.heap.size (k4.below hB) (k2.up hB (by omega)) (by unfold maxLen; omega) rfl).mono fun _ _ ⟨he, hq⟩ => ⟨he, hB.trans (hq.below _)⟩
  have hSh : ∀ W, Below w4.heap.size w4 W → Calls Try.prog 15 #[.int .u64 n] W fun e w' => ∃ D d, e = .returned (.slice D (short n).length d) ∧ Sh w' w'.heap.size D (short n).length (by8 (short n)) ∧ Below w4.heap.size w4 w' := fun W hB =>
    (short_any n W hn).mono fun _ w' ⟨v, he, ho, hb⟩ => by
      obtain ⟨D, d, rfl⟩ := ho.form
      exact ⟨D, d, he, ho.sh, hB.trans (hb.mono hB.size)⟩
  have hS2 : ∀ W D d, Sh W W.heap.size D (short n).length (by8 (short n)) → Below w4.heap.size w4 W → Calls Try.prog 14 #[.slice (some ⟨b, off + l, none⟩) (short n).length (f - l), .slice D (short n).length d] W fun e w' => e = .returned (.bool true) ∧ Below w4.heap.size w4 w' := fun W D d hD hB =>
    (same_yes (some ⟨b, off + l, none⟩) D (short n).length (short n).length (f - l) d (short n) (short n) W w4.heap.size W.heap.size (k5.below hB) hD (by unfold maxLen; omega) rfl).mono fun _ _ ⟨he, hq⟩ => ⟨he, hB.trans (hq.below _)⟩
  have hAw : ∀ W, Below w4.heap.size w4 W → Calls Try.prog 8 #[] W fun e w' => e = .returned (.bool true) ∧ Below w4.heap.size w4 w' := fun W hB =>
    (awake_any W).mono fun _ _ ⟨he, hb⟩ => ⟨he, hB.trans (hb.mono hB.size)⟩
  have HK := Lib.hid hK
  have HS1 := Lib.hid hS1
  have HSh := Lib.hid hSh
  have HS2 := Lib.hid hS2
  have HAw := Lib.hid hAw
  have HB4 := Lib.hid hbw4
  clear hK hS1 hSh hS2 hAw k1 k2 k3 k4 k5 hcells hbw4 s1 s2 s4 ho1 ho4 hG1 hq2 hq3 hq13 hb34 hb1 hb4 hm
  have hge : decide ((l : Int) ≤ (l : Int) + ((short n).length : Int)) = true := decide_eq_true (by omega)
  have hfl : ¬ f = l := by omega
  have hfl2 : ¬ f ≤ l := by omega
  go_wp2_with fail
  refine region_start (by kernel_rfl) 46 rfl ?_
  refine wpAny_next 0 16 30 (by kernel_rfl) (fun _ _ d _ _ h => by cases d <;> exact h) ?_
  simp only [List.drop_zero, List.take_succ_cons, List.take_zero]
  repeat (go_big_quiet_step (fail))
  refine wpQuiet_nil ?_
  refine wpAny_one (i := 16) (fuel := 29) (by kernel_rfl) rfl (fun K hK => ?_)
  go_simp
  refine (HK.out _ ((Below.refl _ _).drew)).mono ?_
  rintro e wk ⟨rfl, hBk⟩
  refine hK _ _ ?_
  clear hK K
  refine wpAny_next 17 14 15 (by kernel_rfl) (fun _ _ d _ _ h => by cases d <;> exact h) ?_
  simp only [List.drop_succ_cons, List.drop_zero, List.take_succ_cons, List.take_zero]
  repeat (go_big_quiet_step (fail))
  refine wpQuiet_nil ?_
  refine wpAny_one (i := 31) (fuel := 14) (by kernel_rfl) rfl (fun K hK => ?_)
  go_simp
  refine (HS1.out _ hBk).mono ?_
  rintro e ws1 ⟨rfl, hBs1⟩
  refine hK _ _ ?_
  clear hK K
  refine wpAny_next 32 7 7 (by kernel_rfl) (fun _ _ d _ _ h => by cases d <;> exact h) ?_
  simp only [List.drop_succ_cons, List.drop_zero, List.take_succ_cons, List.take_zero]
  repeat (go_big_quiet_step (fail))
  refine wpQuiet_nil ?_
  refine wpAny_one (i := 39) (fuel := 6) (by kernel_rfl) rfl (fun K hK => ?_)
  go_simp
  refine (HSh.out _ hBs1).mono ?_
  rintro e wsh ⟨D, d, rfl, hD, hBsh⟩
  refine hK _ _ ?_
  clear hK K
  refine wpAny_one (i := 40) (fuel := 5) (by kernel_rfl) rfl (fun K hK => ?_)
  go_simp
  refine (HS2.out _ D d hD hBsh).mono ?_
  rintro e ws2 ⟨rfl, hBs2⟩
  refine hK _ _ ?_
  clear hK K
  refine wpAny_next 41 2 3 (by kernel_rfl) (fun _ _ d _ _ h => by cases d <;> exact h) ?_
  simp only [List.drop_succ_cons, List.drop_zero, List.take_succ_cons, List.take_zero]
  repeat (go_big_quiet_step (fail))
  refine wpQuiet_nil ?_
  refine wpAny_one (i := 43) (fuel := 2) (by kernel_rfl) rfl (fun K hK => ?_)
  go_simp
  refine (HAw.out _ hBs2).mono ?_
  rintro e wa ⟨rfl, hBa⟩
  refine hK _ _ ?_
  clear hK K
  refine wpAny_next 44 2 0 (by kernel_rfl) (fun _ _ d _ _ h => by cases d <;> exact h) ?_
  simp only [List.drop_succ_cons, List.drop_zero, List.take_succ_cons, List.take_zero]
  repeat (go_big_quiet_step (fail))
  refine wpQuiet_nil ?_
  refine wpAny_done (by kernel_rfl) ?_ _
  go_wp2
  go_ret
  exact ⟨rfl, HB4.out.trans (hBa.mono HB4.out.size)⟩

theorem numShorts_walk (a0 : Int) (a1 : Option Addr) (len1 cap1 : Nat) (z1 : List Int) (w : World) (w0 : (Lit.int .u64 a0).wf = true) (w1 : IsRow .u8 w a1 len1 cap1 z1) :
    Calls Try.prog 3 #[.int .u64 a0, .slice a1 len1 cap1] w fun e w' => e = .returned (.bool true) ∧ Below w.heap.size w w' := by
  obtain ⟨n, rfl, hn⟩ := nat_u64 w0
  obtain ⟨hlc, hcm, _, hsh, hwf⟩ := w1.sh
  by_cases h : 2000 < len1
  · exact numShorts_long n a1 len1 cap1 w h (by omega)
  · exact numShorts_short n a1 len1 cap1 (z1.take len1) w hn h hsh (fun x hx => bounds_u8 (hwf x hx))
end Go.Proofs.Ytmodcdpljflmaaa
