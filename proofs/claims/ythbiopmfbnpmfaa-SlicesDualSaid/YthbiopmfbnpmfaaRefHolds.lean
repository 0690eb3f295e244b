import Derived.Test.YthbiopmfbnpmfaaMeet
namespace Go.Proofs.Ythbiopmfbnpmfaa
end Go.Proofs.Ythbiopmfbnpmfaa
