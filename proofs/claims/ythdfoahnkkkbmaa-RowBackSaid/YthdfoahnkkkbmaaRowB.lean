/-
  The type []byte in the table.
-/
import Derived.Test.YthdfoahnkkkbmaaSame
namespace Go.Proofs.Ythdfoahnkkkbmaa
set_option linter.unusedVariables false
set_option linter.unusedSimpArgs false
open Go.RowKit

theorem rowB : RowT Try.prog 42 5 1 1 := RowT.mk (z := .int .u8 0) Try.underlying42 (by kernel_rfl) rfl (by omega)

end Go.Proofs.Ythdfoahnkkkbmaa
