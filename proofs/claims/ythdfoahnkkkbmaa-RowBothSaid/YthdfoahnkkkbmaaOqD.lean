/-
  CONTRACT OF the document's 'New': the walk.
-/
import Derived.Test.YthdfoahnkkkbmaaOqA
namespace Go.Proofs.Ythdfoahnkkkbmaa
set_option linter.unusedVariables false
set_option linter.unusedSimpArgs false
open Go.RowKit

end Go.Proofs.Ythdfoahnkkkbmaa
