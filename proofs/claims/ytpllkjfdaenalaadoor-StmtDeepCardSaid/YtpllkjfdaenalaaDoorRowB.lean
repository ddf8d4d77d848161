/-
  The type []byte in the table.
-/
import Derived.Test.YtpllkjfdaenalaaDoorSame
namespace Go.Proofs.YtpllkjfdaenalaaDoor
set_option linter.unusedVariables false
set_option linter.unusedSimpArgs false
open Go.RowKit

theorem rowB : RowT Tryd.prog 22 5 1 1 := RowT.mk (z := .int .u8 0) Tryd.underlying22 (by kernel_rfl) rfl (by omega)

end Go.Proofs.YtpllkjfdaenalaaDoor
