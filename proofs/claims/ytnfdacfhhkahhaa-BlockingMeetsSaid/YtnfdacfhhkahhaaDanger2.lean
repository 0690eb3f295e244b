import Derived.Test.YtnfdacfhhkahhaaMeet
namespace Go.Proofs.Ytnfdacfhhkahhaa
end Go.Proofs.Ytnfdacfhhkahhaa
