/-
  Arguments of the type laws.Instr, opened (written by gen/rec.py).
-/
import Derived.Test.YtpigpncbjckbcaaDoorPosts
import Derived.Test.YtpigpncbjckbcaaDoorKoOpen
import Derived.Test.YtpigpncbjckbcaaDoorNtB
namespace Go.Proofs.YtpigpncbjckbcaaDoor
open Go.ChangeShapes Go.WideShapes Go.ChangeAt Go.RowKit

set_option maxRecDepth 100000 in
set_option maxHeartbeats 1000000 in
theorem open_Ntcells {H : Type} {enc : TypeId × Value → H} {w : World} {base : Nat} {spare : Nat → Bool} {held : Bool} {fuel : Nat} {v0 v1 v2 v3 v4 v5 : Value} {x : DataW H × List MemPlace} (ht : DataW.trod enc Tryd.prog w base spare held fuel 26 [v0, v1, v2, v3, v4, v5] = some x) :
    ∃ d : Nt, [v0, v1, v2, v3, v4, v5] = Nt.E.cells d ∧ Nt.E.In w w.heap.size d := by
  obtain ⟨xs, n', rfl, _, hcl, hxl, hf⟩ := DataW.trod_struct Tryd.underlying26 ht
  have g0 := hf 0 _ rfl
  change DataW.trod enc Tryd.prog w base spare held n' 3 (List.take (Tryd.prog.cellsOf 3) [v0, v1, v2, v3, v4, v5]) = xs[0]? at g0
  rw [(show Tryd.prog.cellsOf 3 = 1 by kernel_rfl), List.getElem?_eq_getElem (by have : xs.length = 3 := hxl; omega)] at g0
  change DataW.trod enc Tryd.prog w base spare held n' 3 [v0] = _ at g0
  have g1 := hf 1 _ rfl
  change DataW.trod enc Tryd.prog w base spare held n' 3 (List.take (Tryd.prog.cellsOf 3) [v1, v2, v3, v4, v5]) = xs[1]? at g1
  rw [(show Tryd.prog.cellsOf 3 = 1 by kernel_rfl), List.getElem?_eq_getElem (by have : xs.length = 3 := hxl; omega)] at g1
  change DataW.trod enc Tryd.prog w base spare held n' 3 [v1] = _ at g1
  have g2 := hf 2 _ rfl
  change DataW.trod enc Tryd.prog w base spare held n' 24 (List.take (Tryd.prog.cellsOf 24) [v2, v3, v4, v5]) = xs[2]? at g2
  rw [(show Tryd.prog.cellsOf 24 = 4 by kernel_rfl), List.getElem?_eq_getElem (by have : xs.length = 3 := hxl; omega)] at g2
  change DataW.trod enc Tryd.prog w base spare held n' 24 [v2, v3, v4, v5] = _ at g2
  obtain ⟨x0, e0, _, wf0⟩ := DataW.trod_int Tryd.underlying3 g0
  simp only [List.cons.injEq, and_true] at e0
  subst e0
  obtain ⟨x1, e1, _, wf1⟩ := DataW.trod_int Tryd.underlying3 g1
  simp only [List.cons.injEq, and_true] at e1
  subst e1
  obtain ⟨x2, e2, in2⟩ := open_Dcells g2
  change @Eq (List Value) _ [.int .i64 x2.k, .int .i64 x2.n, .string x2.t, .slice x2.A x2.l.length x2.c] at e2
  simp only [List.cons.injEq, and_true] at e2
  obtain ⟨q2_0, q2_1, q2_2, q2_3⟩ := e2
  subst q2_0 q2_1 q2_2 q2_3
  exact ⟨(⟨x0, x1, x2⟩ : Nt), rfl, Nt.E_mk ⟨in2⟩⟩
set_option maxRecDepth 100000 in
/-- An argument of the type laws.Instr. -/
theorem open_Nt {H : Type} {enc : TypeId × Value → H} {w : World} {r : Reach} {b0 base : Nat} {spare : Nat → Bool} {held : Bool} {v : Value} {x : DataW H} {ps : List MemPlace} (hv : Value.okWide Tryd.prog w r b0 26 v) (h : DataW.Trod enc Tryd.prog w base spare held 26 v x ps) :
    ∃ d : Nt, v = Nt.val d ∧ Nt.E.In w w.heap.size d := by
  have hC : Tryd.prog.cellsOf 26 = 6 := by kernel_rfl
  obtain ⟨cs, rfl, hsz⟩ := okWide_struct Tryd.underlying26 hv
  obtain ⟨fuel, ht⟩ := h
  obtain ⟨l⟩ := cs
  match l, hsz.trans hC with
  | [v0, v1, v2, v3, v4, v5], _ =>
    obtain ⟨d, e, hd⟩ := open_Ntcells ht
    refine ⟨d, ?_, hd⟩
    rw [e]; rfl
end Go.Proofs.YtpigpncbjckbcaaDoor
