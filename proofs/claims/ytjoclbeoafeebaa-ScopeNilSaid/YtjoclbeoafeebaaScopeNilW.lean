import Derived.Test.YtjoclbeoafeebaaSq
import Derived.Test.YtjoclbeoafeebaaScopeOrdersV
import Derived.Test.YtjoclbeoafeebaaScK
import Derived.Test.YtjoclbeoafeebaaScOk
namespace Go.Proofs.Ytjoclbeoafeebaa
set_option linter.unusedVariables false
open Go.RowKit
theorem Qfi(file:Int)(s:ByteArray)(hf:(Lit.int .i64 file).wf=true)(w:World)(hs:s.size≤maxLen) :
  CP 5 #[.int .i64 file,.string s] w fun e w'=>e=.returned (.bool true)∧Below w.heap.size w w':=
 Qfc Qk9 (U4 Qk9) file s w hs
end Go.Proofs.Ytjoclbeoafeebaa
