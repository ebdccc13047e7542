/-
  The cells of a Core that is a field of an argument, opened (written by gen/rec.py).
-/
import Derived.Test.YtndckeodpoommaaKoOpen
namespace Go.Proofs.Ytndckeodpoommaa
open Go.ChangeShapes Go.WideShapes Go.ChangeAt Go.RowKit

set_option maxRecDepth 100000 in
set_option maxHeartbeats 1000000 in
theorem open_Kocells {H : Type} {enc : TypeId × Value → H} {w : World} {base : Nat} {spare : Nat → Bool} {held : Bool} {fuel : Nat} {v0 v1 v2 v3 v4 v5 v6 v7 : Value} {x : DataW H × List MemPlace} (ht : DataW.trod enc Try.prog w base spare held fuel 65 [v0, v1, v2, v3, v4, v5, v6, v7] = some x) :
    ∃ d : Tr Ko, [v0, v1, v2, v3, v4, v5, v6, v7] = Ko.E.cells d ∧ Ko.E.In w w.heap.size d := by
  obtain ⟨xs, n', rfl, _, hcl, hxl, hf⟩ := DataW.trod_struct Try.underlying65 ht
  have g0 := hf 0 _ rfl
  change DataW.trod enc Try.prog w base spare held n' 3 (List.take (Try.prog.cellsOf 3) [v0, v1, v2, v3, v4, v5, v6, v7]) = xs[0]? at g0
  rw [(show Try.prog.cellsOf 3 = 1 by kernel_rfl), List.getElem?_eq_getElem (by have : xs.length = 5 := hxl; omega)] at g0
  change DataW.trod enc Try.prog w base spare held n' 3 [v0] = _ at g0
  have g1 := hf 1 _ rfl
  change DataW.trod enc Try.prog w base spare held n' 3 (List.take (Try.prog.cellsOf 3) [v1, v2, v3, v4, v5, v6, v7]) = xs[1]? at g1
  rw [(show Try.prog.cellsOf 3 = 1 by kernel_rfl), List.getElem?_eq_getElem (by have : xs.length = 5 := hxl; omega)] at g1
  change DataW.trod enc Try.prog w base spare held n' 3 [v1] = _ at g1
  have g2 := hf 2 _ rfl
  change DataW.trod enc Try.prog w base spare held n' 28 (List.take (Try.prog.cellsOf 28) [v2, v3, v4, v5, v6, v7]) = xs[2]? at g2
  rw [(show Try.prog.cellsOf 28 = 1 by kernel_rfl), List.getElem?_eq_getElem (by have : xs.length = 5 := hxl; omega)] at g2
  change DataW.trod enc Try.prog w base spare held n' 28 [v2] = _ at g2
  have g3 := hf 3 _ rfl
  change DataW.trod enc Try.prog w base spare held n' 62 (List.take (Try.prog.cellsOf 62) [v3, v4, v5, v6, v7]) = xs[3]? at g3
  rw [(show Try.prog.cellsOf 62 = 4 by kernel_rfl), List.getElem?_eq_getElem (by have : xs.length = 5 := hxl; omega)] at g3
  change DataW.trod enc Try.prog w base spare held n' 62 [v3, v4, v5, v6] = _ at g3
  have g4 := hf 4 _ rfl
  change DataW.trod enc Try.prog w base spare held n' 63 (List.take (Try.prog.cellsOf 63) [v7]) = xs[4]? at g4
  rw [(show Try.prog.cellsOf 63 = 1 by kernel_rfl), List.getElem?_eq_getElem (by have : xs.length = 5 := hxl; omega)] at g4
  change DataW.trod enc Try.prog w base spare held n' 63 [v7] = _ at g4
  obtain ⟨x0, e0, _, wf0⟩ := DataW.trod_int Try.underlying3 g0
  simp only [List.cons.injEq, and_true] at e0
  subst e0
  obtain ⟨x1, e1, _, wf1⟩ := DataW.trod_int Try.underlying3 g1
  simp only [List.cons.injEq, and_true] at e1
  subst e1
  obtain ⟨xa2, xc2, x2, e2, in2, wf2⟩ := open_introwf g2
  simp only [List.cons.injEq, and_true] at e2
  subst e2
  obtain ⟨x3, e3, in3⟩ := open_Dcells g3
  simp only [D.cells, List.cons.injEq, and_true] at e3
  obtain ⟨q3, q4, q5, q6⟩ := e3
  subst q3 q4 q5 q6
  obtain ⟨kA, kC, kL, e4, kin⟩ := open_Korow n' _ _ g4
  simp only [List.cons.injEq, and_true] at e4
  subst e4
  exact ⟨(Tr.mk (⟨x0, x1, xa2, xc2, x2, x3⟩ : Ko) kA kC kL), rfl, Ko.E_mk ⟨in2, in3, ⟨wf1, wf2⟩⟩ kin⟩
end Go.Proofs.Ytndckeodpoommaa
