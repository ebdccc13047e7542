/-
  Arguments of the type laws.Image, opened (written by gen/rec.py).
-/
import Derived.Test.YtpigpncbjckbcaaPosts
import Derived.Test.YtpigpncbjckbcaaKoOpen
import Derived.Test.YtpigpncbjckbcaaImB
import Derived.Test.YtpigpncbjckbcaaCdO
namespace Go.Proofs.Ytpigpncbjckbcaa
open Go.ChangeShapes Go.WideShapes Go.ChangeAt Go.RowKit

set_option maxRecDepth 100000 in
set_option maxHeartbeats 1000000 in
theorem open_Imcells {H : Type} {enc : TypeId × Value → H} {w : World} {base : Nat} {spare : Nat → Bool} {held : Bool} {fuel : Nat} {v0 v1 : Value} {x : DataW H × List MemPlace} (ht : DataW.trod enc Try.prog w base spare held fuel 26 [v0, v1] = some x) :
    ∃ d : Im, [v0, v1] = Im.E.cells d ∧ Im.E.In w w.heap.size d := by
  obtain ⟨xs, n', rfl, _, hcl, hxl, hf⟩ := DataW.trod_struct Try.underlying26 ht
  have g0 := hf 0 _ rfl
  change DataW.trod enc Try.prog w base spare held n' 24 (List.take (Try.prog.cellsOf 24) [v0, v1]) = xs[0]? at g0
  rw [(show Try.prog.cellsOf 24 = 1 by kernel_rfl), List.getElem?_eq_getElem (by have : xs.length = 2 := hxl; omega)] at g0
  change DataW.trod enc Try.prog w base spare held n' 24 [v0] = _ at g0
  have g1 := hf 1 _ rfl
  change DataW.trod enc Try.prog w base spare held n' 3 (List.take (Try.prog.cellsOf 3) [v1]) = xs[1]? at g1
  rw [(show Try.prog.cellsOf 3 = 1 by kernel_rfl), List.getElem?_eq_getElem (by have : xs.length = 2 := hxl; omega)] at g1
  change DataW.trod enc Try.prog w base spare held n' 3 [v1] = _ at g1
  obtain ⟨xa0, xc0, x0, e0, in0⟩ := open_Cdrow g0
  simp only [List.cons.injEq, and_true] at e0
  subst e0
  obtain ⟨x1, e1, _, wf1⟩ := DataW.trod_int Try.underlying3 g1
  simp only [List.cons.injEq, and_true] at e1
  subst e1
  exact ⟨(⟨xa0, xc0, x0, x1⟩ : Im), rfl, Im.E_mk ⟨in0⟩⟩
set_option maxRecDepth 100000 in
/-- An argument of the type laws.Image. -/
theorem open_Im {H : Type} {enc : TypeId × Value → H} {w : World} {r : Reach} {b0 base : Nat} {spare : Nat → Bool} {held : Bool} {v : Value} {x : DataW H} {ps : List MemPlace} (hv : Value.okWide Try.prog w r b0 26 v) (h : DataW.Trod enc Try.prog w base spare held 26 v x ps) :
    ∃ d : Im, v = Im.val d ∧ Im.E.In w w.heap.size d := by
  have hC : Try.prog.cellsOf 26 = 2 := by kernel_rfl
  obtain ⟨cs, rfl, hsz⟩ := okWide_struct Try.underlying26 hv
  obtain ⟨fuel, ht⟩ := h
  obtain ⟨l⟩ := cs
  match l, hsz.trans hC with
  | [v0, v1], _ =>
    obtain ⟨d, e, hd⟩ := open_Imcells ht
    refine ⟨d, ?_, hd⟩
    rw [e]; rfl
end Go.Proofs.Ytpigpncbjckbcaa
