/-
  The program's copies of data; ListDatum.
-/
import Derived.Test.YtnldlbglgalbaabGreatTrees
namespace Go.Proofs.YtnldlbglgalbaabGreat
open Go.RowKit

end Go.Proofs.YtnldlbglgalbaabGreat
