/-
  blazonlaw14.LatticeNil is true for every input: a lattice that is none has nothing.
  Conditions: none beyond the statement's own.
-/
import Derived.Test.YtcppmmiblmcagaaLtH
namespace Go.Proofs.Ytcppmmiblmcagaa
set_option linter.unusedVariables false
set_option linter.unusedSimpArgs false
open Go.RowKit

set_option maxRecDepth 100000 in
set_option maxHeartbeats 800000 in
theorem latticeNil_walk (a b : Int) (_ : (Lit.int .i64 a).wf = true) (_ : (Lit.int .i64 b).wf = true) (w : World) : Calls Try.prog 6 #[.int .i64 a, .int .i64 b] w fun e w' => e = .returned (.bool true) ∧ Below w.heap.size w w' := by
  have HJ := Lib.hid (ljoinAll_nil (w.alloc (.cells #[.int .i64 a] 3)) _ _ 1 1 [a] (Sh.lit w [.int .i64 a] 3) (by decide))
  have HB := Lib.hid ((Below.refl w.heap.size w).alloc (Nat.le_refl _) (.cells #[.int .i64 a] 3))
  go_enter Try.func6, Try.ntmps6
  go_wp2_with (first
    | (go_at_call 12; (with_reducible refine (lnew_nil _).mono ?_); rintro e w1 ⟨rfl, rfl⟩)
    | (go_at_call 16; (with_reducible refine (lorder_nil _).mono ?_); rintro e w1 ⟨rfl, rfl⟩)
    | (go_at_call 14; (with_reducible refine (ljoin_nil _ _ _).mono ?_); rintro e w1 ⟨rfl, rfl⟩)
    | (go_at_call 15; (with_reducible refine (lmeet_nil _ _ _).mono ?_); rintro e w1 ⟨rfl, rfl⟩)
    | (go_at_call 23; refine HJ.out.mono ?_; rintro e w1 ⟨rfl, rfl⟩)
    | (go_at_call 19; (with_reducible refine (lbot_nil _).mono ?_); rintro e w1 ⟨rfl, rfl⟩)
    | (go_at_call 21; (with_reducible refine (ltop_nil _).mono ?_); rintro e w1 ⟨rfl, rfl⟩)
    | (go_at_call 18; (with_reducible refine (lasked_nil _).mono ?_); rintro e w1 ⟨rfl, rfl⟩)
    | (go_at_call 9; refine (awake14_any _).mono ?_; rintro e w9 ⟨rfl, b9⟩)
    | go_in)
  go_ret
  exact ⟨rfl, HB.out.trans (b9.mono HB.out.size)⟩
end Go.Proofs.Ytcppmmiblmcagaa
