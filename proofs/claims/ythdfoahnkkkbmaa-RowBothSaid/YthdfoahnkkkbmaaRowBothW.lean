/-
  blazonlaw16.RowBoth: the walk, over what the program's own package answers.
-/
import Derived.Test.YthdfoahnkkkbmaaRowBothV
import Derived.Test.YthdfoahnkkkbmaaRwO
import Derived.Test.YthdfoahnkkkbmaaRwOk
namespace Go.Proofs.Ythdfoahnkkkbmaa
set_option linter.unusedVariables false
open Go.RowKit

theorem rowBoth_walk (A1 : Option Addr) (n1 c1 : Nat) (L1 : List OPn) (A2 : Option Addr) (n2 c2 : Nat) (L2 : List OPn) (A3 : Option Addr) (n3 c3 : Nat) (L3 : List OPn) (w : World) (hn1 : n1 ≤ maxLen) (hL1 : ShW w w.heap.size A1 n1 L1) (hs1 : ∀ t ∈ L1, t.1.size ≤ maxLen)
    (hn2 : n2 ≤ maxLen) (hL2 : ShW w w.heap.size A2 n2 L2) (hs2 : ∀ t ∈ L2, t.1.size ≤ maxLen) (hn3 : n3 ≤ maxLen) (hL3 : ShW w w.heap.size A3 n3 L3) (hs3 : ∀ t ∈ L3, t.1.size ≤ maxLen) :
    Calls Try.prog 8 #[.slice A1 n1 c1, .slice A2 n2 c2, .slice A3 n3 c3] w fun e w' => e = .returned (.bool true) ∧ Below w.heap.size w w' :=
  rowBoth_over rw_ok A1 n1 c1 L1 A2 n2 c2 L2 A3 n3 c3 L3 w hn1 hL1 hs1 hn2 hL2 hs2 hn3 hL3 hs3
end Go.Proofs.Ythdfoahnkkkbmaa
