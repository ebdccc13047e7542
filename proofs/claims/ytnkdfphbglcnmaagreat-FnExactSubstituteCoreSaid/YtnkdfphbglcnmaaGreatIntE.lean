/-
  Two lists of ints that are the same.
-/
import Derived.Test.YtnkdfphbglcnmaaGreatInts
namespace Go.Proofs.YtnkdfphbglcnmaaGreat
open Go.RowKit
end Go.Proofs.YtnkdfphbglcnmaaGreat
