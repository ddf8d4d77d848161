import Derived.Test.YtjoclbeoafeebaaMem
namespace Go.Proofs.Ytjoclbeoafeebaa
end Go.Proofs.Ytjoclbeoafeebaa
