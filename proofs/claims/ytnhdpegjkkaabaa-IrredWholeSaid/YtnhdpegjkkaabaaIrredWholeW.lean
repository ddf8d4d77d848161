/-
  blazonlaw15.IrredWhole: the walk, over what the program's own package answers.
-/
import Derived.Test.YtnhdpegjkkaabaaIrredWholeV
import Derived.Test.YtnhdpegjkkaabaaIrOk
namespace Go.Proofs.Ytnhdpegjkkaabaa
set_option linter.unusedVariables false
open Go.RowKit Go.Maps

theorem irredWhole_walk (A : Option Addr) (n c : Nat) (L : List OPa) (s_ : Int) (hs_ : (Lit.int .u64 s_).wf = true) (w : World) (hn : n ≤ maxLen) (hL : ShP w w.heap.size A n L) (hs : ∀ t ∈ L, t.1.1.size ≤ maxLen ∧ t.1.2.size ≤ maxLen) (hnc : n ≤ c) :
    Calls Try.prog 5 #[.slice A n c, .int .u64 s_] w fun e w' => e = .returned (.bool true) ∧ Below w.heap.size w w' :=
  irredWhole_over ir_ok A n c L s_ hs_ w hn hL hs hnc
end Go.Proofs.Ytnhdpegjkkaabaa
