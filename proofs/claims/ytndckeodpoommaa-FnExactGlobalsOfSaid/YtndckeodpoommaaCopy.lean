/-
  The program's copies of data; ListDatum.
-/
import Derived.Test.YtndckeodpoommaaTrees
namespace Go.Proofs.Ytndckeodpoommaa
open Go.RowKit

end Go.Proofs.Ytndckeodpoommaa
