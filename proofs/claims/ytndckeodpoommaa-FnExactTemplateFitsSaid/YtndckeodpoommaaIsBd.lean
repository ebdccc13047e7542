/-
  IsBinding, the model's and the program's.
-/
import Derived.Test.YtndckeodpoommaaBind
import Derived.Test.YtndckeodpoommaaNames
import Derived.Test.YtndckeodpoommaaScSets
import Derived.Test.YtndckeodpoommaaWords
import Derived.Deep.RegionHeld3
import Derived.Deep.RegionLaw
import Derived.Deep.RegionWith
import Derived.Deep.DeepCutAuto
namespace Go.Proofs.Ytndckeodpoommaa
open Go.RowKit

/-- How many numbers a kind of binding has. -/
def countI (k : Int) : Int := if k = 1 then 12 else if k = 2 then 14 else if k = 3 then 100000 else if k = 4 then 100000 else 0
namespace Bd
def okN (b : Bd) : Bool := decide (0 ≤ b.n) && decide (b.n < countI b.k)
def isB (b : Bd) : Bool := symB b.t && (isSetI b.s && okN b)
theorem isB_of_er {a b : Bd} (h : er a = er b) : isB a = isB b := by
  obtain ⟨h1, h2, h3, h4⟩ := fields_of_er h
  unfold isB okN; rw [h1, h2, h3, h4]
end Bd

end Go.Proofs.Ytndckeodpoommaa
