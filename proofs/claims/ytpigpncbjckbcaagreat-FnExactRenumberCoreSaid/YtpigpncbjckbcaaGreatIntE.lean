/-
  Two lists of ints that are the same.
-/
import Derived.Test.YtpigpncbjckbcaaGreatInts
namespace Go.Proofs.YtpigpncbjckbcaaGreat
open Go.RowKit
end Go.Proofs.YtpigpncbjckbcaaGreat
