/-
  Atoms, and simple terms: the program's and the model's tests.
-/
import Derived.Test.YtpigpncbjckbcaaGreatKvVal
import Derived.Test.YtpigpncbjckbcaaGreatKcFits
import Derived.Test.YtpigpncbjckbcaaGreatScSets
import Derived.Test.YtpigpncbjckbcaaGreatNear
import Derived.Deep.RegionHeld3
namespace Go.Proofs.YtpigpncbjckbcaaGreat
open Go.RowKit Go.Maps Go.WideMaps Go.ChangeMaps
end Go.Proofs.YtpigpncbjckbcaaGreat
namespace Go.Proofs.YtpigpncbjckbcaaGreat
open Go.RowKit Go.Maps Go.WideMaps Go.ChangeMaps
end Go.Proofs.YtpigpncbjckbcaaGreat
