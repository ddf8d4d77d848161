/-
  blazonlaw15.IrredNil: the walk, over what is asked of irreducibles.
-/
import Derived.Test.YtnhdpegjkkaabaaIrE
namespace Go.Proofs.Ytnhdpegjkkaabaa
set_option linter.unusedVariables false
set_option linter.unusedSimpArgs false
open Go.RowKit

set_option maxRecDepth 100000 in
set_option maxHeartbeats 800000 in
theorem irredNil_over (HI : IrNew) (HN : IrNil) (a b s : Int) (ha_ : (Lit.int .i64 a).wf = true) (hb_ : (Lit.int .i64 b).wf = true) (hs_ : (Lit.int .u64 s).wf = true) (w : World) : Calls Try.prog 6 #[.int .i64 a, .int .i64 b, .int .u64 s] w fun e w' => e = .returned (.bool true) ∧ Below w.heap.size w w' := by
  go_enter Try.func6, Try.ntmps6
  go_wp2_with (first
    | (go_at_call 24; (with_reducible refine (HN.new _).mono ?_); rintro e w1 ⟨rfl, b1⟩; have HB1 := Lib.hid b1; clear b1)
    | (go_at_call 13; (with_reducible refine (HN.len _).mono ?_); rintro e w1 ⟨rfl, rfl⟩)
    | (go_at_call 14; (with_reducible refine (HN.elem _ _).mono ?_); rintro e w1 ⟨rfl, rfl⟩)
    | (go_at_call 15; (with_reducible refine (HN.set _ _).mono ?_); rintro e w1 ⟨rfl, rfl⟩)
    | (go_at_call 19; (with_reducible refine (HN.of _ _).mono ?_); rintro e w1 ⟨rfl, rfl⟩)
    | (go_at_call 21; (with_reducible refine (HN.down _ _).mono ?_); rintro e w1 ⟨rfl, rfl⟩)
    | (go_at_call 23; (with_reducible refine (HN.is_ _ _).mono ?_); rintro e w1 ⟨rfl, rfl⟩)
    | (go_at_call 17; (with_reducible refine (HN.apart _ _ _).mono ?_); rintro e w1 ⟨rfl, rfl⟩)
    | (go_at_call 10; refine (awake15_any HI _).mono ?_; rintro e w9 ⟨rfl, b9⟩)
    | go_in)
  go_ret
  exact ⟨rfl, HB1.out.trans (b9.mono HB1.out.size)⟩
end Go.Proofs.Ytnhdpegjkkaabaa
