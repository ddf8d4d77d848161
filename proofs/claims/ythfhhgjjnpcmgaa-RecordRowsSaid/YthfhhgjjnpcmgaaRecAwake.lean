/-
  'awake' of layer 4, the document's examples: true.
-/
import Derived.Test.YthfhhgjjnpcmgaaRecAll
import Derived.Test.YthfhhgjjnpcmgaaRegion
namespace Go.Proofs.Ythfhhgjjnpcmgaa
set_option linter.unusedVariables false
set_option linter.unusedSimpArgs false
open Go.RowKit Go.BigFrame

set_option maxRecDepth 10000 in
set_option maxHeartbeats 800000 in
theorem awake_any (w : World) : Calls Try.prog 7 #[] w fun e w' => e = .returned (.bool true) ∧ Below w.heap.size w w' := by
  have hz := zeroRec
  have HB7 : Hid (Byt (form 7 [])) := Lib.hid (form_byt (by omega) (fun x hx => by simp at hx))
  go_enter Try.func7, Try.ntmps7
  go_wp2_with (first
    | (go_at_call 9; refine (new_smr _).mono ?_; rintro e w1 ⟨g, rfl, hg, s1, b1⟩; have S1 := Lib.hid s1; have B1 := Lib.hid b1; clear s1 b1)
    | (go_at_call 8; refine (rput_any g 0 false none none 0 0 0 0 7 [] [] w1 0 S1.out (by omega) (Sh.nil _ _ _) (Off.nil _ _) (Sh.nil _ _ _) (Off.nil _ _) (fun x hx => by simp at hx) (by omega) (by omega) (by omega) (by omega)).mono ?_; rintro e w2 ⟨v2, rfl, ho2, s2, u2⟩; have ho2 := ho2.cast (n' := 9) (xs' := by8 (form 7 [])) rfl rfl; obtain ⟨A2, c2, rfl⟩ := ho2.form; obtain ⟨G, rfl, hG, hG2, _⟩ := ho2.full (by omega); have hcap := ho2.cap; unfold maxLen at hcap; have O2 := Lib.hid ho2; have B2 := Lib.hid (B1.out.trans (u2.below hg B1.out.size)); clear ho2 s2 u2)
    | fail)
  refine region_start (by kernel_rfl) 9 rfl ?_
  refine wpAny_next 1 2 7 (by kernel_rfl) (fun _ _ d _ _ h => by cases d <;> exact h) ?_
  simp only [List.drop_succ_cons, List.drop_zero, List.take_succ_cons, List.take_zero]
  repeat (go_big_quiet_step (fail))
  refine wpQuiet_nil ?_
  refine wpAny_one (i := 0) (fuel := 6) (by kernel_rfl) rfl (fun KK hKK => ?_)
  go_simp
  refine (new_smr _).mono ?_
  rintro e w3 ⟨g3, rfl, hg3, s3, b3⟩
  refine hKK _ _ ?_
  clear hKK KK
  have S3 := Lib.hid s3
  have B3 : Hid (Below w2.heap.size w2 w3) := Lib.hid ((below_drew _ _).trans b3)
  clear s3 b3
  have HSH : Hid (Sh w3 w2.heap.size (some ⟨G, 0, none⟩) 8 (by8 ((form 7 []).take 8))) := Lib.hid (by
    have := (O2.out.sh.below B3.out).head (k := 8) (by omega)
    rwa [by8_take] at this)
  refine wpAny_one (i := 3) (fuel := 5) (by kernel_rfl) rfl (fun KK hKK => ?_)
  go_simp
  refine (all_any g3 0 false (some ⟨G, 0, none⟩) 8 c2 ((form 7 []).take 8) w3 w2.heap.size S3.out (by omega) (by omega) (by omega) (.inr ⟨G, 0, rfl⟩) (by unfold maxLen; omega) (HB7.out.take 8) B3.out.size HSH.out (HSH.out.off hg3)).mono ?_
  rintro e w4 ⟨v4, L, u, d4, k4, rfl, ho4, hr4, _, hu8, h9, _, s4, _, u4⟩
  obtain rfl : L = [] := List.eq_nil_of_length_eq_zero (by omega)
  obtain rfl := reads_none hr4 rfl
  obtain ⟨A4, c4, rfl⟩ := ho4.form
  have B4 : Hid (Below w.heap.size w w4) := Lib.hid (B2.out.trans ((B3.out.mono B2.out.size).trans (u4.below (Nat.le_trans B2.out.size hg3) (Nat.le_trans B2.out.size B3.out.size))))
  clear ho4 hr4 s4 u4
  refine hKK _ _ ?_
  clear hKK KK
  refine wpAny_next 4 5 0 (by kernel_rfl) (fun _ _ d _ _ h => by cases d <;> exact h) ?_
  simp only [List.drop_succ_cons, List.drop_zero, List.take_succ_cons, List.take_zero]
  repeat (go_big_quiet_step (fail))
  refine wpQuiet_nil ?_
  refine wpAny_done (by kernel_rfl) ?_ _
  go_wp2
  go_ret
  exact ⟨rfl, B4.out⟩
end Go.Proofs.Ythfhhgjjnpcmgaa
