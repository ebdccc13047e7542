/-
  Data without items: the program's and the model's.
-/
import Derived.Test.YtpigpncbjckbcaaIsD
namespace Go.Proofs.Ytpigpncbjckbcaa
open Go.RowKit

def zeroD : D := .mk 0 0 ⟨#[]⟩ none 0 []
/-- The datum without items, if it is valid. -/
def leafD (k n : Int) (t : ByteArray) : D := if nodeOk k n t 0 then .mk k n t none 0 [] else zeroD
theorem leafD_size (k n : Int) (t : ByteArray) : (leafD k n t).size ≤ 2000000 := by
  unfold leafD
  split <;> simp [D.size, D.sizeL, zeroD]
theorem isD_leaf (k n : Int) (t : ByteArray) : (D.mk k n t none 0 []).isD = nodeOk k n t 0 := by
  simp [D.isD, D.size, D.sizeL, D.depth, D.depthL, D.valid, D.validL]
theorem leaf_yes {k n : Int} {t : ByteArray} (h : nodeOk k n t 0 = true) : leafD k n t = .mk k n t none 0 [] := by unfold leafD; rw [if_pos h]
theorem leaf_no {k n : Int} {t : ByteArray} (h : nodeOk k n t 0 = false) : leafD k n t = zeroD := by unfold leafD; rw [h]; rfl

end Go.Proofs.Ytpigpncbjckbcaa
