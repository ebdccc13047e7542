/-
  The program's copies of data; ListDatum.
-/
import Derived.Test.YtnldlbglgalbaaaTrees
namespace Go.Proofs.Ytnldlbglgalbaaa
open Go.RowKit

end Go.Proofs.Ytnldlbglgalbaaa
