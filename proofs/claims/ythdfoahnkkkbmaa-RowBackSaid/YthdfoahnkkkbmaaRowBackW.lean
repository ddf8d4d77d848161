/-
  blazonlaw16.RowBack: the walk, over what the program's own package answers.
-/
import Derived.Test.YthdfoahnkkkbmaaRowBackV
import Derived.Test.YthdfoahnkkkbmaaRwO
import Derived.Test.YthdfoahnkkkbmaaRwOk
namespace Go.Proofs.Ythdfoahnkkkbmaa
set_option linter.unusedVariables false
open Go.RowKit

theorem rowBack_walk (A1 : Option Addr) (n1 c1 : Nat) (L1 : List OPn) (A2 : Option Addr) (n2 c2 : Nat) (L2 : List OPn) (w : World) (hn1 : n1 ≤ maxLen) (hL1 : ShW w w.heap.size A1 n1 L1) (hs1 : ∀ t ∈ L1, t.1.size ≤ maxLen)
    (hn2 : n2 ≤ maxLen) (hL2 : ShW w w.heap.size A2 n2 L2) (hs2 : ∀ t ∈ L2, t.1.size ≤ maxLen) :
    Calls Try.prog 7 #[.slice A1 n1 c1, .slice A2 n2 c2] w fun e w' => e = .returned (.bool true) ∧ Below w.heap.size w w' :=
  rowBack_over rw_ok A1 n1 c1 L1 A2 n2 c2 L2 w hn1 hL1 hs1 hn2 hL2 hs2
end Go.Proofs.Ythdfoahnkkkbmaa
