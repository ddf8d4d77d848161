import Derived.Test.YtjoclbeoafeebaaSq
import Derived.Test.YtjoclbeoafeebaaScopeOrdersV
import Derived.Test.YtjoclbeoafeebaaScK
import Derived.Test.YtjoclbeoafeebaaScOk
namespace Go.Proofs.Ytjoclbeoafeebaa
set_option linter.unusedVariables false
open Go.RowKit
theorem Qbu(A1:Option Addr)(n1 c1:Nat)(N:List ByteArray)(A2:Option Addr)(n2 c2:Nat)(FS:List ByteArray)(w:World)(hn1:n1≤maxLen)(hc1:n1≤c1)(hN:Sh w w.heap.size A1 n1 (Z0 N))
  (hn2:n2≤maxLen) (hc2:n2≤c2) (hF:Sh w w.heap.size A2 n2 (Z0 FS)) :
  CP 4 #[.slice A1 n1 c1,.slice A2 n2 c2] w fun e w'=>e=.returned (.bool true)∧Below w.heap.size w w':=
 Qbt Qk9 (U4 Qk9) A1 n1 c1 N A2 n2 c2 FS w hn1 hc1 hN hn2 hF
end Go.Proofs.Ytjoclbeoafeebaa
