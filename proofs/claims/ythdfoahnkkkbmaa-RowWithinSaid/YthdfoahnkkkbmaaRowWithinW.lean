/-
  blazonlaw16.RowWithin: the walk, over what the program's own package answers.
-/
import Derived.Test.YthdfoahnkkkbmaaRowWithinV
import Derived.Test.YthdfoahnkkkbmaaRwOk
namespace Go.Proofs.Ythdfoahnkkkbmaa
set_option linter.unusedVariables false
open Go.RowKit

theorem rowWithin_walk (a_ b_ : Int) (ha_ : (Lit.int .u64 a_).wf = true) (hb_ : (Lit.int .u64 b_).wf = true) (w : World) :
    Calls Try.prog 6 #[.int .u64 a_, .int .u64 b_] w fun e w' => e = .returned (.bool true) ∧ Below w.heap.size w w' :=
  rowWithin_over rw_ok a_ b_ ha_ hb_ w
end Go.Proofs.Ythdfoahnkkkbmaa
