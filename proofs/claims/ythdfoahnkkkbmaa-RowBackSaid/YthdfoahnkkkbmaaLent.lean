/-
  CONTRACTS OF 'blazonref01.Lent' and 'blazonref01.Kept'.
-/
import Derived.Test.YthdfoahnkkkbmaaRowB
namespace Go.Proofs.Ythdfoahnkkkbmaa
set_option linter.unusedVariables false
set_option linter.unusedSimpArgs false
open Go.RowKit

end Go.Proofs.Ythdfoahnkkkbmaa
