/-
  CONTRACTS OF 'blazonref01.Lent' and 'blazonref01.Kept'.
-/
import Derived.Test.YtpllkjfdaenalaaDoorRowB
namespace Go.Proofs.YtpllkjfdaenalaaDoor
set_option linter.unusedVariables false
set_option linter.unusedSimpArgs false
open Go.RowKit

end Go.Proofs.YtpllkjfdaenalaaDoor
