/-
  blazonlaw15.IrredFar: the walk, over what the program's own package answers.
-/
import Derived.Test.YtnhdpegjkkaabaaIrredFarV
import Derived.Test.YtnhdpegjkkaabaaIrOk
namespace Go.Proofs.Ytnhdpegjkkaabaa
set_option linter.unusedVariables false
open Go.RowKit Go.Maps

theorem irredFar_walk (A : Option Addr) (n c : Nat) (L : List OPa) (a1 a2 a3 : Int) (hb1 : (Lit.int .u8 a1).wf = true) (hb2 : (Lit.int .u8 a2).wf = true) (hb3 : (Lit.int .u8 a3).wf = true) (w : World) (hn : n ≤ maxLen) (hL : ShP w w.heap.size A n L) (hs : ∀ t ∈ L, t.1.1.size ≤ maxLen ∧ t.1.2.size ≤ maxLen) (hnc : n ≤ c) :
    Calls Try.prog 7 #[.slice A n c, .int .u8 a1, .int .u8 a2, .int .u8 a3] w fun e w' => e = .returned (.bool true) ∧ Below w.heap.size w w' :=
  irredFar_over ir_ok A n c L a1 a2 a3 hb1 hb2 hb3 w hn hL hs hnc
end Go.Proofs.Ytnhdpegjkkaabaa
