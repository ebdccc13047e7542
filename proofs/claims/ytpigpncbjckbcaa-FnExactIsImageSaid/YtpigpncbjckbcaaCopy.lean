/-
  The program's copies of data; ListDatum.
-/
import Derived.Test.YtpigpncbjckbcaaTrees
namespace Go.Proofs.Ytpigpncbjckbcaa
open Go.RowKit

end Go.Proofs.Ytpigpncbjckbcaa
