/-
  The cells of an argument of the type laws.Datum.
-/
import Derived.Test.YtbeikpbnidbjfaaPosts
namespace Go.Proofs.Ytbeikpbnidbjfaa
open Go.ChangeShapes Go.WideShapes Go.ChangeAt Go.RowKit

set_option maxRecDepth 100000 in
theorem open_Dcells {H : Type} {enc : TypeId × Value → H} {w : World} {base : Nat} {spare : Nat → Bool} {held : Bool} {fuel : Nat} {v0 v1 v2 v3 : Value} {x : DataW H × List MemPlace} (ht : DataW.trod enc Try.prog w base spare held fuel 25 [v0, v1, v2, v3] = some x) :
    ∃ d : D, [v0, v1, v2, v3] = d.cells ∧ d.In w w.heap.size := by
  have c3 : Try.prog.cellsOf 3 = 1 := by kernel_rfl
  have c9 : Try.prog.cellsOf 9 = 1 := by kernel_rfl
  have c40 : Try.prog.cellsOf 23 = 1 := by kernel_rfl
  obtain ⟨xs, n', rfl, _, hcl, hxl, hf⟩ := DataW.trod_struct Try.underlying25 ht
  have g0 := hf 0 _ rfl
  have g1 := hf 1 _ rfl
  have g2 := hf 2 _ rfl
  have g3 := hf 3 _ rfl
  have hxl' : xs.length = 4 := hxl
  change DataW.trod enc Try.prog w base spare held n' 3 (List.take (Try.prog.cellsOf 3) [v0, v1, v2, v3]) = xs[0]? at g0
  change DataW.trod enc Try.prog w base spare held n' 3 (List.take (Try.prog.cellsOf 3) [v1, v2, v3]) = xs[1]? at g1
  change DataW.trod enc Try.prog w base spare held n' 9 (List.take (Try.prog.cellsOf 9) [v2, v3]) = xs[2]? at g2
  change DataW.trod enc Try.prog w base spare held n' 23 (List.take (Try.prog.cellsOf 23) [v3]) = xs[3]? at g3
  rw [c3, List.getElem?_eq_getElem (by omega)] at g0 g1
  rw [c9, List.getElem?_eq_getElem (by omega)] at g2
  rw [c40, List.getElem?_eq_getElem (by omega)] at g3
  obtain ⟨k, e0, _⟩ := DataW.trod_int Try.underlying3 g0
  obtain ⟨nn, e1, _⟩ := DataW.trod_int Try.underlying3 g1
  obtain ⟨s, e2, _, hs⟩ := DataW.trod_string Try.underlying9 g2
  obtain ⟨A, c, l, e3, hin⟩ := open_cells n' _ _ g3
  simp at e0 e1 e2 e3
  subst e0 e1 e2 e3
  exact ⟨.mk k nn s A c l, rfl, ⟨⟨hin.1.1, hin.1.2.1, hs⟩, hin.2.1, hin.2.2⟩⟩
end Go.Proofs.Ytbeikpbnidbjfaa
