/-
  The cells of an argument of the type laws.Syntax.
-/
import Derived.Test.YtndckeodpoommaaPosts
namespace Go.Proofs.Ytndckeodpoommaa
open Go.ChangeShapes Go.WideShapes Go.ChangeAt Go.RowKit

set_option maxRecDepth 100000 in
theorem open_Scells {H : Type} {enc : TypeId × Value → H} {w : World} {base : Nat} {spare : Nat → Bool} {held : Bool} {fuel : Nat} {v0 v1 v2 v3 v4 : Value} {x : DataW H × List MemPlace} (ht : DataW.trod enc Try.prog w base spare held fuel 85 [v0, v1, v2, v3, v4] = some x) :
    ∃ d : S, [v0, v1, v2, v3, v4] = d.cells ∧ d.In w w.heap.size := by
  have c3 : Try.prog.cellsOf 3 = 1 := by kernel_rfl
  have c9 : Try.prog.cellsOf 9 = 1 := by kernel_rfl
  have c33 : Try.prog.cellsOf 28 = 1 := by kernel_rfl
  have c40 : Try.prog.cellsOf 83 = 1 := by kernel_rfl
  obtain ⟨xs, n', rfl, _, hcl, hxl, hf⟩ := DataW.trod_struct Try.underlying85 ht
  have g0 := hf 0 _ rfl
  have g1 := hf 1 _ rfl
  have g2 := hf 2 _ rfl
  have g3 := hf 3 _ rfl
  have g4 := hf 4 _ rfl
  have hxl' : xs.length = 5 := hxl
  change DataW.trod enc Try.prog w base spare held n' 3 (List.take (Try.prog.cellsOf 3) [v0, v1, v2, v3, v4]) = xs[0]? at g0
  change DataW.trod enc Try.prog w base spare held n' 3 (List.take (Try.prog.cellsOf 3) [v1, v2, v3, v4]) = xs[1]? at g1
  change DataW.trod enc Try.prog w base spare held n' 9 (List.take (Try.prog.cellsOf 9) [v2, v3, v4]) = xs[2]? at g2
  change DataW.trod enc Try.prog w base spare held n' 28 (List.take (Try.prog.cellsOf 28) [v3, v4]) = xs[3]? at g3
  change DataW.trod enc Try.prog w base spare held n' 83 (List.take (Try.prog.cellsOf 83) [v4]) = xs[4]? at g4
  rw [c3, List.getElem?_eq_getElem (by omega)] at g0 g1
  rw [c9, List.getElem?_eq_getElem (by omega)] at g2
  rw [c33, List.getElem?_eq_getElem (by omega)] at g3
  rw [c40, List.getElem?_eq_getElem (by omega)] at g4
  obtain ⟨k, e0, _⟩ := DataW.trod_int Try.underlying3 g0
  obtain ⟨nn, e1, _⟩ := DataW.trod_int Try.underlying3 g1
  obtain ⟨s, e2, _, hs⟩ := DataW.trod_string Try.underlying9 g2
  obtain ⟨sa, sc, ss, e3, his⟩ := open_introw g3
  obtain ⟨A, c, l, e4, hin⟩ := open_scells n' _ _ g4
  simp at e0 e1 e2 e3 e4
  subst e0 e1 e2 e3 e4
  exact ⟨.mk k nn s sa sc ss A c l, rfl, ⟨⟨hin.1.1, hin.1.2.1, hs⟩, his, hin.2.2.1, hin.2.2.2⟩⟩
end Go.Proofs.Ytndckeodpoommaa
