import Derived.Shelf.SlSortCmp.Insertion
import Derived.Test.YthbiopmfbnpmfaaProg
namespace Go.Proofs.Ythbiopmfbnpmfaa
end Go.Proofs.Ythbiopmfbnpmfaa
