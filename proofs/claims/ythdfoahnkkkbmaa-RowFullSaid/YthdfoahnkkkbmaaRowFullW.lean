/-
  blazonlaw16.RowFull: the walk, over what the program's own package answers.
-/
import Derived.Test.YthdfoahnkkkbmaaRowFullV
import Derived.Test.YthdfoahnkkkbmaaRwOk
namespace Go.Proofs.Ythdfoahnkkkbmaa
set_option linter.unusedVariables false
open Go.RowKit

theorem rowFull_walk (n : Int) (hn : (Lit.int .u8 n).wf = true) (w : World) :
    Calls Try.prog 5 #[.int .u8 n] w fun e w' => e = .returned (.bool true) ∧ Below w.heap.size w w' :=
  rowFull_over rw_ok n hn w
end Go.Proofs.Ythdfoahnkkkbmaa
