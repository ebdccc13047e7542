/-
  Arguments of the types laws.Binding and []laws.Binding, opened.
-/
import Derived.Test.YtjgpekfnfmabbaaDoorPosts
import Derived.Test.YtjgpekfnfmabbaaDoorBind
namespace Go.Proofs.YtjgpekfnfmabbaaDoor
open Go.ChangeShapes Go.WideShapes Go.ChangeAt Go.RowKit

set_option maxRecDepth 100000 in
/-- The cells of a binding. -/
theorem open_bcell {H : Type} {enc : TypeId × Value → H} {w : World} {base : Nat} {spare : Nat → Bool} {held : Bool} {fuel : Nat} {v0 v1 v2 v3 : Value} {x : DataW H × List MemPlace} (ht : DataW.trod enc Tryd.prog w base spare held fuel 51 [v0, v1, v2, v3] = some x) :
    ∃ d : Bd, [v0, v1, v2, v3] = d.cells ∧ d.In w w.heap.size := by
  have c3 : Tryd.prog.cellsOf 3 = 1 := by kernel_rfl
  have c9 : Tryd.prog.cellsOf 9 = 1 := by kernel_rfl
  have c33 : Tryd.prog.cellsOf 38 = 1 := by kernel_rfl
  obtain ⟨xs, n', rfl, _, hcl, hxl, hf⟩ := DataW.trod_struct Tryd.underlying51 ht
  have g0 := hf 0 _ rfl
  have g1 := hf 1 _ rfl
  have g2 := hf 2 _ rfl
  have g3 := hf 3 _ rfl
  have hxl' : xs.length = 4 := hxl
  change DataW.trod enc Tryd.prog w base spare held n' 9 (List.take (Tryd.prog.cellsOf 9) [v0, v1, v2, v3]) = xs[0]? at g0
  change DataW.trod enc Tryd.prog w base spare held n' 38 (List.take (Tryd.prog.cellsOf 38) [v1, v2, v3]) = xs[1]? at g1
  change DataW.trod enc Tryd.prog w base spare held n' 3 (List.take (Tryd.prog.cellsOf 3) [v2, v3]) = xs[2]? at g2
  change DataW.trod enc Tryd.prog w base spare held n' 3 (List.take (Tryd.prog.cellsOf 3) [v3]) = xs[3]? at g3
  rw [c9, List.getElem?_eq_getElem (by omega)] at g0
  rw [c33, List.getElem?_eq_getElem (by omega)] at g1
  rw [c3, List.getElem?_eq_getElem (by omega)] at g2 g3
  obtain ⟨s, e0, _, hs⟩ := DataW.trod_string Tryd.underlying9 g0
  obtain ⟨sa, sc, ss, e1, his⟩ := open_introw g1
  obtain ⟨k, e2, _⟩ := DataW.trod_int Tryd.underlying3 g2
  obtain ⟨nn, e3, _⟩ := DataW.trod_int Tryd.underlying3 g3
  simp at e0 e1 e2 e3
  subst e0 e1 e2 e3
  exact ⟨⟨s, sa, sc, ss, k, nn⟩, rfl, hs, his⟩

set_option maxRecDepth 100000 in
/-- An argument of the type laws.Binding. -/
theorem open_bind {H : Type} {enc : TypeId × Value → H} {w : World} {r : Reach} {b0 base : Nat} {spare : Nat → Bool} {held : Bool} {v : Value} {x : DataW H} {ps : List MemPlace} (hv : Value.okWide Tryd.prog w r b0 51 v) (h : DataW.Trod enc Tryd.prog w base spare held 51 v x ps) :
    ∃ d : Bd, v = d.val ∧ d.In w w.heap.size := by
  have hC : Tryd.prog.cellsOf 51 = 4 := by kernel_rfl
  obtain ⟨cs, rfl, hsz⟩ := okWide_struct Tryd.underlying51 hv
  obtain ⟨fuel, hf⟩ := h
  obtain ⟨l⟩ := cs
  match l, hsz.trans hC with
  | [v0, v1, v2, v3], _ =>
    obtain ⟨d, e, hd⟩ := open_bcell hf
    refine ⟨d, ?_, hd⟩
    rw [e]; rfl

end Go.Proofs.YtjgpekfnfmabbaaDoor
