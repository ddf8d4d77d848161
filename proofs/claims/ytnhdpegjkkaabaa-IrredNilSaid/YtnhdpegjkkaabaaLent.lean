/-
  CONTRACTS OF 'blazonref01.Lent' and 'blazonref01.Kept'.
-/
import Derived.Test.YtnhdpegjkkaabaaRowB
namespace Go.Proofs.Ytnhdpegjkkaabaa
set_option linter.unusedVariables false
set_option linter.unusedSimpArgs false
open Go.RowKit

end Go.Proofs.Ytnhdpegjkkaabaa
