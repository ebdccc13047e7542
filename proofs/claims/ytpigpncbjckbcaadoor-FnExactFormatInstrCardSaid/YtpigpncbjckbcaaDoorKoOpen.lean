/-
  An argument of the type []int, opened: its numbers are ints.
-/
import Derived.Test.YtpigpncbjckbcaaDoorPosts
import Derived.Test.YtpigpncbjckbcaaDoorKoBase
namespace Go.Proofs.YtpigpncbjckbcaaDoor
open Go.ChangeShapes Go.WideShapes Go.ChangeAt Go.RowKit

end Go.Proofs.YtpigpncbjckbcaaDoor

namespace Go.Proofs.YtpigpncbjckbcaaDoor
open Go.ChangeShapes Go.WideShapes Go.ChangeAt Go.RowKit

set_option maxRecDepth 100000 in
theorem open_Dcells {H : Type} {enc : TypeId × Value → H} {w : World} {base : Nat} {spare : Nat → Bool} {held : Bool} {fuel : Nat} {v0 v1 v2 v3 : Value} {x : DataW H × List MemPlace} (ht : DataW.trod enc Tryd.prog w base spare held fuel 24 [v0, v1, v2, v3] = some x) :
    ∃ d : D, [v0, v1, v2, v3] = d.cells ∧ d.In w w.heap.size := by
  have c3 : Tryd.prog.cellsOf 3 = 1 := by kernel_rfl
  have c9 : Tryd.prog.cellsOf 9 = 1 := by kernel_rfl
  have c40 : Tryd.prog.cellsOf 22 = 1 := by kernel_rfl
  obtain ⟨xs, n', rfl, _, hcl, hxl, hf⟩ := DataW.trod_struct Tryd.underlying24 ht
  have g0 := hf 0 _ rfl
  have g1 := hf 1 _ rfl
  have g2 := hf 2 _ rfl
  have g3 := hf 3 _ rfl
  have hxl' : xs.length = 4 := hxl
  change DataW.trod enc Tryd.prog w base spare held n' 3 (List.take (Tryd.prog.cellsOf 3) [v0, v1, v2, v3]) = xs[0]? at g0
  change DataW.trod enc Tryd.prog w base spare held n' 3 (List.take (Tryd.prog.cellsOf 3) [v1, v2, v3]) = xs[1]? at g1
  change DataW.trod enc Tryd.prog w base spare held n' 9 (List.take (Tryd.prog.cellsOf 9) [v2, v3]) = xs[2]? at g2
  change DataW.trod enc Tryd.prog w base spare held n' 22 (List.take (Tryd.prog.cellsOf 22) [v3]) = xs[3]? at g3
  rw [c3, List.getElem?_eq_getElem (by omega)] at g0 g1
  rw [c9, List.getElem?_eq_getElem (by omega)] at g2
  rw [c40, List.getElem?_eq_getElem (by omega)] at g3
  obtain ⟨k, e0, _⟩ := DataW.trod_int Tryd.underlying3 g0
  obtain ⟨nn, e1, _⟩ := DataW.trod_int Tryd.underlying3 g1
  obtain ⟨s, e2, _, hs⟩ := DataW.trod_string Tryd.underlying9 g2
  obtain ⟨A, c, l, e3, hin⟩ := open_cells n' _ _ g3
  simp at e0 e1 e2 e3
  subst e0 e1 e2 e3
  exact ⟨.mk k nn s A c l, rfl, ⟨⟨hin.1.1, hin.1.2.1, hs⟩, hin.2.1, hin.2.2⟩⟩
end Go.Proofs.YtpigpncbjckbcaaDoor

namespace Go.Proofs.YtpigpncbjckbcaaDoor
open Go.ChangeShapes Go.WideShapes Go.ChangeAt Go.RowKit

end Go.Proofs.YtpigpncbjckbcaaDoor
