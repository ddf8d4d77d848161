/-
  blazonlaw15.IrredSets: the walk, over what the program's own package answers.
-/
import Derived.Test.YtnhdpegjkkaabaaIrredSetsV
import Derived.Test.YtnhdpegjkkaabaaIrOk
namespace Go.Proofs.Ytnhdpegjkkaabaa
set_option linter.unusedVariables false
open Go.RowKit Go.Maps

theorem irredSets_walk (A : Option Addr) (n c : Nat) (L : List OPa) (a b : Int) (ha_ : (Lit.int .i64 a).wf = true) (hb_ : (Lit.int .i64 b).wf = true) (w : World) (hn : n ≤ maxLen) (hL : ShP w w.heap.size A n L) (hs : ∀ t ∈ L, t.1.1.size ≤ maxLen ∧ t.1.2.size ≤ maxLen) (hnc : n ≤ c) :
    Calls Try.prog 3 #[.slice A n c, .int .i64 a, .int .i64 b] w fun e w' => e = .returned (.bool true) ∧ Below w.heap.size w w' :=
  irredSets_over ir_ok A n c L a b ha_ hb_ w hn hL hs hnc
end Go.Proofs.Ytnhdpegjkkaabaa
