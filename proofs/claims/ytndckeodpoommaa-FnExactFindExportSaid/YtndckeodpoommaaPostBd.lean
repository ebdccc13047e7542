/-
  Arguments of the types laws.Binding and []laws.Binding, opened.
-/
import Derived.Test.YtndckeodpoommaaPosts
import Derived.Test.YtndckeodpoommaaBind
namespace Go.Proofs.Ytndckeodpoommaa
open Go.ChangeShapes Go.WideShapes Go.ChangeAt Go.RowKit

set_option maxRecDepth 100000 in
/-- The cells of a binding. -/
theorem open_bcell {H : Type} {enc : TypeId × Value → H} {w : World} {base : Nat} {spare : Nat → Bool} {held : Bool} {fuel : Nat} {v0 v1 v2 v3 : Value} {x : DataW H × List MemPlace} (ht : DataW.trod enc Try.prog w base spare held fuel 174 [v0, v1, v2, v3] = some x) :
    ∃ d : Bd, [v0, v1, v2, v3] = d.cells ∧ d.In w w.heap.size := by
  have c3 : Try.prog.cellsOf 3 = 1 := by kernel_rfl
  have c9 : Try.prog.cellsOf 9 = 1 := by kernel_rfl
  have c33 : Try.prog.cellsOf 28 = 1 := by kernel_rfl
  obtain ⟨xs, n', rfl, _, hcl, hxl, hf⟩ := DataW.trod_struct Try.underlying174 ht
  have g0 := hf 0 _ rfl
  have g1 := hf 1 _ rfl
  have g2 := hf 2 _ rfl
  have g3 := hf 3 _ rfl
  have hxl' : xs.length = 4 := hxl
  change DataW.trod enc Try.prog w base spare held n' 9 (List.take (Try.prog.cellsOf 9) [v0, v1, v2, v3]) = xs[0]? at g0
  change DataW.trod enc Try.prog w base spare held n' 28 (List.take (Try.prog.cellsOf 28) [v1, v2, v3]) = xs[1]? at g1
  change DataW.trod enc Try.prog w base spare held n' 3 (List.take (Try.prog.cellsOf 3) [v2, v3]) = xs[2]? at g2
  change DataW.trod enc Try.prog w base spare held n' 3 (List.take (Try.prog.cellsOf 3) [v3]) = xs[3]? at g3
  rw [c9, List.getElem?_eq_getElem (by omega)] at g0
  rw [c33, List.getElem?_eq_getElem (by omega)] at g1
  rw [c3, List.getElem?_eq_getElem (by omega)] at g2 g3
  obtain ⟨s, e0, _, hs⟩ := DataW.trod_string Try.underlying9 g0
  obtain ⟨sa, sc, ss, e1, his⟩ := open_introw g1
  obtain ⟨k, e2, _⟩ := DataW.trod_int Try.underlying3 g2
  obtain ⟨nn, e3, _⟩ := DataW.trod_int Try.underlying3 g3
  simp at e0 e1 e2 e3
  subst e0 e1 e2 e3
  exact ⟨⟨s, sa, sc, ss, k, nn⟩, rfl, hs, his⟩

set_option maxRecDepth 100000 in
/-- An argument of the type laws.Binding. -/
theorem open_bind {H : Type} {enc : TypeId × Value → H} {w : World} {r : Reach} {b0 base : Nat} {spare : Nat → Bool} {held : Bool} {v : Value} {x : DataW H} {ps : List MemPlace} (hv : Value.okWide Try.prog w r b0 174 v) (h : DataW.Trod enc Try.prog w base spare held 174 v x ps) :
    ∃ d : Bd, v = d.val ∧ d.In w w.heap.size := by
  have hC : Try.prog.cellsOf 174 = 4 := by kernel_rfl
  obtain ⟨cs, rfl, hsz⟩ := okWide_struct Try.underlying174 hv
  obtain ⟨fuel, hf⟩ := h
  obtain ⟨l⟩ := cs
  match l, hsz.trans hC with
  | [v0, v1, v2, v3], _ =>
    obtain ⟨d, e, hd⟩ := open_bcell hf
    refine ⟨d, ?_, hd⟩
    rw [e]; rfl

set_option maxRecDepth 100000 in
/-- An argument of the type []laws.Binding. -/
theorem open_binds {H : Type} {enc : TypeId × Value → H} {w : World} {r : Reach} {b0 base : Nat} {spare : Nat → Bool} {held : Bool} {v : Value} {x : DataW H} {ps : List MemPlace} (hv : Value.okWide Try.prog w r b0 37 v) (h : DataW.Trod enc Try.prog w base spare held 37 v x ps) :
    ∃ (A : Option Addr) (c : Nat) (l : List Bd), v = .slice A l.length c ∧ Bd.E.LIn w w.heap.size A c l := by
  have hC : Try.prog.cellsOf 174 = 4 := by kernel_rfl
  obtain ⟨a0, len0, cap0, rfl⟩ := okWide_slice Try.underlying37 hv
  obtain ⟨fuel, hf⟩ := h
  have hvc : ∀ cs, DataW.trod enc Try.prog w base spare held fuel 37 cs = some (x, ps) → ∃ (A : Option Addr) (c : Nat) (l : List Bd), cs = [.slice A l.length c] ∧ Bd.E.LIn w w.heap.size A c l := by
    intro cs h
    rcases DataW.trod_slice Try.underlying37 h with ⟨rfl, _⟩ | ⟨a, len, cap, elems, rest, n, rfl, rfl, _, _, hl, hm, hlen, hel, _⟩
    · exact ⟨none, 0, [], rfl, Elem.LIn.nil_ (by omega) (fun _ => rfl)⟩
    · have key : ∀ i, i < len → ∃ d : Bd, d.In w w.heap.size ∧ ∀ j u, d.cells[j]? = some u → w.cell? (a.add (i * 4 + j)) = some u := by
        intro i hi
        have hi' := hel i hi
        rw [List.getElem?_eq_getElem (by omega)] at hi'
        obtain ⟨cs', hcs, ht⟩ := Option.bind_eq_some_iff.1 hi'
        rw [hC] at hcs
        obtain ⟨_, hlen', hat⟩ := World.cells?_some hcs
        match cs', hlen' with
        | [v0, v1, v2, v3], _ =>
          obtain ⟨d, e, hd⟩ := open_bcell ht
          refine ⟨d, hd, fun j u hu => ?_⟩
          rw [← e] at hu
          have hj : j < 4 := (List.getElem?_eq_some_iff.1 hu).1
          have b := hat j (by simpa using hj)
          rw [Go.Deep.add_add] at b
          rw [b]
          exact hu
      obtain ⟨l, hll, hp⟩ := list_of len key
      refine ⟨some a, cap, l, by rw [hll], ⟨by omega, by unfold maxLen at hm; omega⟩, by simp, fun hne => ?_, fun d hd => ?_⟩
      · have hpos : 0 < l.length := List.length_pos_iff.2 hne
        have h0 : w.cell? (a.add (0 * 4 + 0)) = some (.string l[0].t) := (hp 0 _ (List.getElem?_eq_getElem hpos)).2 0 _ rfl
        have hsp : a.spot = none := by
          have := spot_of_cell h0
          simpa [Addr.add] using this
        refine ⟨a.block, a.off, by rw [← hsp], ?_, ?_⟩
        · have := World.block_lt_of_cell? w _ h0
          simpa [Addr.add] using this
        · intro j u hu
          have hj : j < 4 * l.length := by have h := (List.getElem?_eq_some_iff.1 hu).1; rw [Elem.cellsL_length] at h; exact h
          have hi : l[j / 4]? = some l[j / 4] := List.getElem?_eq_getElem (by omega)
          have g := Elem.cellsL_get (E := Bd.E) hi (j := j % 4) (show j % 4 < 4 by omega)
          have e4 : Bd.E.n = 4 := rfl
          rw [e4, show 4 * (j / 4) + j % 4 = j by omega, hu] at g
          have b := (hp _ _ hi).2 (j % 4) u g.symm
          rw [add_plain a hsp] at b
          rwa [show j / 4 * 4 + j % 4 = j by omega] at b
      · obtain ⟨i, hi⟩ := List.mem_iff_getElem?.1 hd
        exact (hp i d hi).1
  obtain ⟨A, c, l, e, hl⟩ := hvc _ hf
  have e' : Value.slice a0 len0 cap0 = .slice A l.length c := by simpa [Value.cells] using e
  exact ⟨A, c, l, e', hl⟩
end Go.Proofs.Ytndckeodpoommaa
