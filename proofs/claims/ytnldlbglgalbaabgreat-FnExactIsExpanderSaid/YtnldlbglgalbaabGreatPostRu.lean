/-
  An argument of the type laws.Rules, opened.
-/
import Derived.Test.YtnldlbglgalbaabGreatPosts
import Derived.Test.YtnldlbglgalbaabGreatRul
namespace Go.Proofs.YtnldlbglgalbaabGreat
open Go.ChangeShapes Go.WideShapes Go.ChangeAt Go.RowKit

set_option maxRecDepth 100000 in
/-- An argument of the type laws.Rules. -/
theorem open_rules {H : Type} {enc : TypeId × Value → H} {w : World} {r : Reach} {b0 base : Nat} {spare : Nat → Bool} {held : Bool} {v : Value} {x : DataW H} {ps : List MemPlace} (hv : Value.okWide Tryz.prog w r b0 24 v) (h : DataW.Trod enc Tryz.prog w base spare held 24 v x ps) :
    ∃ d : Ru, v = d.val ∧ d.In w w.heap.size := by
  have c40 : Tryz.prog.cellsOf 22 = 1 := by kernel_rfl
  have hC : Tryz.prog.cellsOf 24 = 3 := by kernel_rfl
  obtain ⟨cs, rfl, hsz⟩ := okWide_struct Tryz.underlying24 hv
  obtain ⟨fuel, hf⟩ := h
  obtain ⟨l⟩ := cs
  match l, hsz.trans hC with
  | [v0, v1, v2], _ =>
    obtain ⟨xs, n', rfl, _, hcl, hxl, hf⟩ := DataW.trod_struct Tryz.underlying24 hf
    have g0 := hf 0 _ rfl
    have g1 := hf 1 _ rfl
    have g2 := hf 2 _ rfl
    have hxl' : xs.length = 3 := hxl
    change DataW.trod enc Tryz.prog w base spare held n' 22 (List.take (Tryz.prog.cellsOf 22) [v0, v1, v2]) = xs[0]? at g0
    change DataW.trod enc Tryz.prog w base spare held n' 22 (List.take (Tryz.prog.cellsOf 22) [v1, v2]) = xs[1]? at g1
    change DataW.trod enc Tryz.prog w base spare held n' 22 (List.take (Tryz.prog.cellsOf 22) [v2]) = xs[2]? at g2
    rw [c40, List.getElem?_eq_getElem (by omega)] at g0 g1 g2
    obtain ⟨A0, c0, l0, e0, h0⟩ := open_scells n' _ _ g0
    obtain ⟨A1, c1, l1, e1, h1⟩ := open_scells n' _ _ g1
    obtain ⟨A2, c2, l2, e2, h2⟩ := open_scells n' _ _ g2
    simp at e0 e1 e2
    subst e0 e1 e2
    exact ⟨⟨A0, c0, l0, A1, c1, l1, A2, c2, l2⟩, rfl, h0, h1, h2⟩
end Go.Proofs.YtnldlbglgalbaabGreat
