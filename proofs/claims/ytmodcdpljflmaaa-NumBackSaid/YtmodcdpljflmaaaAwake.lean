/-
  'awake', the document's examples: true.
-/
import Derived.Test.YtmodcdpljflmaaaNum
import Derived.Test.YtmodcdpljflmaaaAdd
namespace Go.Proofs.Ytmodcdpljflmaaa
set_option linter.unusedVariables false
set_option linter.unusedSimpArgs false
open Go.RowKit

theorem short_300 : short 300 = [172, 2] := by rw [short_ge (by omega), short_lt (by omega)]; rfl

set_option maxRecDepth 10000 in
set_option maxHeartbeats 400000 in
theorem awake_any (w : World) : Calls Try.prog 8 #[] w fun e w' => e = .returned (.bool true) ∧ Below w.heap.size w w' := by
  go_enter Try.func8, Try.ntmps8
  go_wp2_with fail
  refine (add_no 9223372036854775807 1 w (by unfold In64; omega) (by unfold In64; omega) (by unfold In64; omega)).mono ?_
  rintro e w' ⟨rfl, rfl⟩
  go_wp2_with fail
  refine (put_any none 0 0 [] 300 w 0 (Sh.nil _ _ _) (by omega) (by unfold U64; omega)).mono ?_
  rintro e w1 ⟨v1, rfl, ho1, hb1⟩
  have ho2 : Own w1 w.heap.size 5 1 v1 2 (by8 [172, 2]) := ho1.cast (by rw [short_300]; rfl) (by rw [short_300]; rfl)
  clear ho1
  obtain ⟨A, c, rfl⟩ := ho2.form
  go_wp2_with fail
  refine (same_yes A _ 2 2 c 2 [172, 2] [172, 2] _ w1.heap.size (w1.heap.size + 1) (ho2.sh.alloc (Nat.le_refl _) _) (Sh.lit w1 (by8 [172, 2]) 5) (by unfold maxLen; omega) rfl).mono ?_
  rintro e w3 ⟨rfl, hq⟩
  have hb3 : Below w.heap.size w w3 := (hb1.alloc hb1.size _).trans (hq.below _)
  go_wp2
  go_ret
  exact ⟨rfl, hb3⟩
end Go.Proofs.Ytmodcdpljflmaaa
