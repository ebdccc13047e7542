/-
  Arguments of the type laws.Unit, opened (written by gen/rec.py).
-/
import Derived.Test.YtndckeodpoommaaPosts
import Derived.Test.YtndckeodpoommaaKoOpen
import Derived.Test.YtndckeodpoommaaUnB
import Derived.Test.YtndckeodpoommaaKoOc
namespace Go.Proofs.Ytndckeodpoommaa
open Go.ChangeShapes Go.WideShapes Go.ChangeAt Go.RowKit

set_option maxRecDepth 100000 in
set_option maxHeartbeats 1000000 in
theorem open_Uncells {H : Type} {enc : TypeId × Value → H} {w : World} {base : Nat} {spare : Nat → Bool} {held : Bool} {fuel : Nat} {v0 v1 v2 v3 v4 v5 v6 v7 v8 v9 : Value} {x : DataW H × List MemPlace} (ht : DataW.trod enc Try.prog w base spare held fuel 67 [v0, v1, v2, v3, v4, v5, v6, v7, v8, v9] = some x) :
    ∃ d : Un, [v0, v1, v2, v3, v4, v5, v6, v7, v8, v9] = Un.E.cells d ∧ Un.E.In w w.heap.size d := by
  obtain ⟨xs, n', rfl, _, hcl, hxl, hf⟩ := DataW.trod_struct Try.underlying67 ht
  have g0 := hf 0 _ rfl
  change DataW.trod enc Try.prog w base spare held n' 9 (List.take (Try.prog.cellsOf 9) [v0, v1, v2, v3, v4, v5, v6, v7, v8, v9]) = xs[0]? at g0
  rw [(show Try.prog.cellsOf 9 = 1 by kernel_rfl), List.getElem?_eq_getElem (by have : xs.length = 3 := hxl; omega)] at g0
  change DataW.trod enc Try.prog w base spare held n' 9 [v0] = _ at g0
  have g1 := hf 1 _ rfl
  change DataW.trod enc Try.prog w base spare held n' 28 (List.take (Try.prog.cellsOf 28) [v1, v2, v3, v4, v5, v6, v7, v8, v9]) = xs[1]? at g1
  rw [(show Try.prog.cellsOf 28 = 1 by kernel_rfl), List.getElem?_eq_getElem (by have : xs.length = 3 := hxl; omega)] at g1
  change DataW.trod enc Try.prog w base spare held n' 28 [v1] = _ at g1
  have g2 := hf 2 _ rfl
  change DataW.trod enc Try.prog w base spare held n' 65 (List.take (Try.prog.cellsOf 65) [v2, v3, v4, v5, v6, v7, v8, v9]) = xs[2]? at g2
  rw [(show Try.prog.cellsOf 65 = 8 by kernel_rfl), List.getElem?_eq_getElem (by have : xs.length = 3 := hxl; omega)] at g2
  change DataW.trod enc Try.prog w base spare held n' 65 [v2, v3, v4, v5, v6, v7, v8, v9] = _ at g2
  obtain ⟨x0, e0, _, in0⟩ := DataW.trod_string Try.underlying9 g0
  simp only [List.cons.injEq, and_true] at e0
  subst e0
  obtain ⟨xa1, xc1, x1, e1, in1, _⟩ := open_introwf g1
  simp only [List.cons.injEq, and_true] at e1
  subst e1
  obtain ⟨x2, e2, in2⟩ := open_Kocells g2
  change @Eq (List Value) _ [.int .i64 x2.a.k, .int .i64 x2.a.n, .slice x2.a.sA x2.a.s.length x2.a.sC, .int .i64 x2.a.d.k, .int .i64 x2.a.d.n, .string x2.a.d.t, .slice x2.a.d.A x2.a.d.l.length x2.a.d.c, .slice x2.A x2.l.length x2.c] at e2
  simp only [List.cons.injEq, and_true] at e2
  obtain ⟨q2_0, q2_1, q2_2, q2_3, q2_4, q2_5, q2_6, q2_7⟩ := e2
  subst q2_0 q2_1 q2_2 q2_3 q2_4 q2_5 q2_6 q2_7
  exact ⟨(⟨x0, xa1, xc1, x1, x2⟩ : Un), rfl, Un.E_mk ⟨in0, in1, in2⟩⟩
set_option maxRecDepth 100000 in
/-- An argument of the type laws.Unit. -/
theorem open_Un {H : Type} {enc : TypeId × Value → H} {w : World} {r : Reach} {b0 base : Nat} {spare : Nat → Bool} {held : Bool} {v : Value} {x : DataW H} {ps : List MemPlace} (hv : Value.okWide Try.prog w r b0 67 v) (h : DataW.Trod enc Try.prog w base spare held 67 v x ps) :
    ∃ d : Un, v = Un.val d ∧ Un.E.In w w.heap.size d := by
  have hC : Try.prog.cellsOf 67 = 10 := by kernel_rfl
  obtain ⟨cs, rfl, hsz⟩ := okWide_struct Try.underlying67 hv
  obtain ⟨fuel, ht⟩ := h
  obtain ⟨l⟩ := cs
  match l, hsz.trans hC with
  | [v0, v1, v2, v3, v4, v5, v6, v7, v8, v9], _ =>
    obtain ⟨d, e, hd⟩ := open_Uncells ht
    refine ⟨d, ?_, hd⟩
    rw [e]; rfl
end Go.Proofs.Ytndckeodpoommaa
