/-
  Arguments of the type laws.Outcome, opened (written by gen/rec.py).
-/
import Derived.Test.YtnldlbglgalbaaaPosts
import Derived.Test.YtnldlbglgalbaaaKoOpen
import Derived.Test.YtnldlbglgalbaaaOuB
import Derived.Test.YtnldlbglgalbaaaSgB
namespace Go.Proofs.Ytnldlbglgalbaaa
open Go.ChangeShapes Go.WideShapes Go.ChangeAt Go.RowKit

set_option maxRecDepth 100000 in
set_option maxHeartbeats 1000000 in
theorem open_Oucells {H : Type} {enc : TypeId × Value → H} {w : World} {base : Nat} {spare : Nat → Bool} {held : Bool} {fuel : Nat} {v0 v1 v2 v3 v4 : Value} {x : DataW H × List MemPlace} (ht : DataW.trod enc Try.prog w base spare held fuel 40 [v0, v1, v2, v3, v4] = some x) :
    ∃ d : Ou, [v0, v1, v2, v3, v4] = Ou.E.cells d ∧ Ou.E.In w w.heap.size d := by
  obtain ⟨xs, n', rfl, _, hcl, hxl, hf⟩ := DataW.trod_struct Try.underlying40 ht
  have g0 := hf 0 _ rfl
  change DataW.trod enc Try.prog w base spare held n' 3 (List.take (Try.prog.cellsOf 3) [v0, v1, v2, v3, v4]) = xs[0]? at g0
  rw [(show Try.prog.cellsOf 3 = 1 by kernel_rfl), List.getElem?_eq_getElem (by have : xs.length = 5 := hxl; omega)] at g0
  change DataW.trod enc Try.prog w base spare held n' 3 [v0] = _ at g0
  have g1 := hf 1 _ rfl
  change DataW.trod enc Try.prog w base spare held n' 9 (List.take (Try.prog.cellsOf 9) [v1, v2, v3, v4]) = xs[1]? at g1
  rw [(show Try.prog.cellsOf 9 = 1 by kernel_rfl), List.getElem?_eq_getElem (by have : xs.length = 5 := hxl; omega)] at g1
  change DataW.trod enc Try.prog w base spare held n' 9 [v1] = _ at g1
  have g2 := hf 2 _ rfl
  change DataW.trod enc Try.prog w base spare held n' 38 (List.take (Try.prog.cellsOf 38) [v2, v3, v4]) = xs[2]? at g2
  rw [(show Try.prog.cellsOf 38 = 1 by kernel_rfl), List.getElem?_eq_getElem (by have : xs.length = 5 := hxl; omega)] at g2
  change DataW.trod enc Try.prog w base spare held n' 38 [v2] = _ at g2
  have g3 := hf 3 _ rfl
  change DataW.trod enc Try.prog w base spare held n' 3 (List.take (Try.prog.cellsOf 3) [v3, v4]) = xs[3]? at g3
  rw [(show Try.prog.cellsOf 3 = 1 by kernel_rfl), List.getElem?_eq_getElem (by have : xs.length = 5 := hxl; omega)] at g3
  change DataW.trod enc Try.prog w base spare held n' 3 [v3] = _ at g3
  have g4 := hf 4 _ rfl
  change DataW.trod enc Try.prog w base spare held n' 3 (List.take (Try.prog.cellsOf 3) [v4]) = xs[4]? at g4
  rw [(show Try.prog.cellsOf 3 = 1 by kernel_rfl), List.getElem?_eq_getElem (by have : xs.length = 5 := hxl; omega)] at g4
  change DataW.trod enc Try.prog w base spare held n' 3 [v4] = _ at g4
  obtain ⟨x0, e0, _, wf0⟩ := DataW.trod_int Try.underlying3 g0
  simp only [List.cons.injEq, and_true] at e0
  subst e0
  obtain ⟨x1, e1, _, in1⟩ := DataW.trod_string Try.underlying9 g1
  simp only [List.cons.injEq, and_true] at e1
  subst e1
  obtain ⟨xa2, xc2, x2, e2, in2⟩ := open_Sgrow g2
  simp only [List.cons.injEq, and_true] at e2
  subst e2
  obtain ⟨x3, e3, _, wf3⟩ := DataW.trod_int Try.underlying3 g3
  simp only [List.cons.injEq, and_true] at e3
  subst e3
  obtain ⟨x4, e4, _, wf4⟩ := DataW.trod_int Try.underlying3 g4
  simp only [List.cons.injEq, and_true] at e4
  subst e4
  exact ⟨(⟨x0, x1, xa2, xc2, x2, x3, x4⟩ : Ou), rfl, Ou.E_mk ⟨in1, in2⟩⟩
set_option maxRecDepth 100000 in
/-- An argument of the type laws.Outcome. -/
theorem open_Ou {H : Type} {enc : TypeId × Value → H} {w : World} {r : Reach} {b0 base : Nat} {spare : Nat → Bool} {held : Bool} {v : Value} {x : DataW H} {ps : List MemPlace} (hv : Value.okWide Try.prog w r b0 40 v) (h : DataW.Trod enc Try.prog w base spare held 40 v x ps) :
    ∃ d : Ou, v = Ou.val d ∧ Ou.E.In w w.heap.size d := by
  have hC : Try.prog.cellsOf 40 = 5 := by kernel_rfl
  obtain ⟨cs, rfl, hsz⟩ := okWide_struct Try.underlying40 hv
  obtain ⟨fuel, ht⟩ := h
  obtain ⟨l⟩ := cs
  match l, hsz.trans hC with
  | [v0, v1, v2, v3, v4], _ =>
    obtain ⟨d, e, hd⟩ := open_Oucells ht
    refine ⟨d, ?_, hd⟩
    rw [e]; rfl
end Go.Proofs.Ytnldlbglgalbaaa
