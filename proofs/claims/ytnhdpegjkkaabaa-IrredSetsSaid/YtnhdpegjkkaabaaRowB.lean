/-
  The type []byte in the table.
-/
import Derived.Test.YtnhdpegjkkaabaaSame
namespace Go.Proofs.Ytnhdpegjkkaabaa
set_option linter.unusedVariables false
set_option linter.unusedSimpArgs false
open Go.RowKit

theorem rowB : RowT Try.prog 119 5 1 1 := RowT.mk (z := .int .u8 0) Try.underlying119 (by kernel_rfl) rfl (by omega)

end Go.Proofs.Ytnhdpegjkkaabaa
