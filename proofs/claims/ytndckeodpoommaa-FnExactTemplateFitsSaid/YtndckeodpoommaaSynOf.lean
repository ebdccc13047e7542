/-
  Syntax objects of data: the model's and the program's SyntaxOf.
-/
import Derived.Test.YtndckeodpoommaaSGrow
import Derived.Test.YtndckeodpoommaaIsD
namespace Go.Proofs.Ytndckeodpoommaa
open Go.RowKit

def zeroS : S := .mk 0 0 ⟨#[]⟩ none 0 [] none 0 []
def synD (d : D) : S := if d.isD then ofD d else zeroS
theorem synD_of_er {d e : D} (h : d.er = e.er) : synD d = synD e := by unfold synD; rw [D.isD_of_er h, ofD_of_er h]

end Go.Proofs.Ytndckeodpoommaa
