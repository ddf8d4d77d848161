/-
  blazonlaw15.IrredNil: the walk, over what the program's own package answers.
-/
import Derived.Test.YtnhdpegjkkaabaaIrredNilV
import Derived.Test.YtnhdpegjkkaabaaIrOk
namespace Go.Proofs.Ytnhdpegjkkaabaa
set_option linter.unusedVariables false
open Go.RowKit Go.Maps

theorem irredNil_walk (a b s : Int) (ha_ : (Lit.int .i64 a).wf = true) (hb_ : (Lit.int .i64 b).wf = true) (hs_ : (Lit.int .u64 s).wf = true) (w : World) : Calls Try.prog 6 #[.int .i64 a, .int .i64 b, .int .u64 s] w fun e w' => e = .returned (.bool true) ∧ Below w.heap.size w w' :=
  irredNil_over ir_ok ir_nil a b s ha_ hb_ hs_ w
end Go.Proofs.Ytnhdpegjkkaabaa
