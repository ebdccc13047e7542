/-
  The program's copies of data; ListDatum.
-/
import Derived.Test.YtnldlbglgalbaabTrees
namespace Go.Proofs.Ytnldlbglgalbaab
open Go.RowKit

end Go.Proofs.Ytnldlbglgalbaab
