/-
  Arguments of the types laws.Binding and []laws.Binding, opened.
-/
import Derived.Test.YtnldlbglgalbaabGreatPosts
import Derived.Test.YtnldlbglgalbaabGreatGBnd
import Derived.Test.YtnldlbglgalbaabGreatPostRu
import Derived.Test.YtnldlbglgalbaabGreatGExB
namespace Go.Proofs.YtnldlbglgalbaabGreat
open Go.ChangeShapes Go.WideShapes Go.ChangeAt Go.RowKit

set_option maxRecDepth 100000 in
/-- The cells of a binding. -/
theorem open_bcell {H : Type} {enc : TypeId × Value → H} {w : World} {base : Nat} {spare : Nat → Bool} {held : Bool} {fuel : Nat} {v0 v1 v2 v3 : Value} {x : DataW H × List MemPlace} (ht : DataW.trod enc Tryz.prog w base spare held fuel 112 [v0, v1, v2, v3] = some x) :
    ∃ d : Bd, [v0, v1, v2, v3] = d.cells ∧ d.In w w.heap.size := by
  have c3 : Tryz.prog.cellsOf 3 = 1 := by kernel_rfl
  have c9 : Tryz.prog.cellsOf 9 = 1 := by kernel_rfl
  have c33 : Tryz.prog.cellsOf 33 = 1 := by kernel_rfl
  obtain ⟨xs, n', rfl, _, hcl, hxl, hf⟩ := DataW.trod_struct Tryz.underlying112 ht
  have g0 := hf 0 _ rfl
  have g1 := hf 1 _ rfl
  have g2 := hf 2 _ rfl
  have g3 := hf 3 _ rfl
  have hxl' : xs.length = 4 := hxl
  change DataW.trod enc Tryz.prog w base spare held n' 9 (List.take (Tryz.prog.cellsOf 9) [v0, v1, v2, v3]) = xs[0]? at g0
  change DataW.trod enc Tryz.prog w base spare held n' 33 (List.take (Tryz.prog.cellsOf 33) [v1, v2, v3]) = xs[1]? at g1
  change DataW.trod enc Tryz.prog w base spare held n' 3 (List.take (Tryz.prog.cellsOf 3) [v2, v3]) = xs[2]? at g2
  change DataW.trod enc Tryz.prog w base spare held n' 3 (List.take (Tryz.prog.cellsOf 3) [v3]) = xs[3]? at g3
  rw [c9, List.getElem?_eq_getElem (by omega)] at g0
  rw [c33, List.getElem?_eq_getElem (by omega)] at g1
  rw [c3, List.getElem?_eq_getElem (by omega)] at g2 g3
  obtain ⟨s, e0, _, hs⟩ := DataW.trod_string Tryz.underlying9 g0
  obtain ⟨sa, sc, ss, e1, his⟩ := open_introw g1
  obtain ⟨k, e2, _⟩ := DataW.trod_int Tryz.underlying3 g2
  obtain ⟨nn, e3, _⟩ := DataW.trod_int Tryz.underlying3 g3
  simp at e0 e1 e2 e3
  subst e0 e1 e2 e3
  exact ⟨⟨s, sa, sc, ss, k, nn⟩, rfl, hs, his⟩

set_option maxRecDepth 100000 in
/-- An argument of the type laws.Binding. -/
theorem open_bind {H : Type} {enc : TypeId × Value → H} {w : World} {r : Reach} {b0 base : Nat} {spare : Nat → Bool} {held : Bool} {v : Value} {x : DataW H} {ps : List MemPlace} (hv : Value.okWide Tryz.prog w r b0 112 v) (h : DataW.Trod enc Tryz.prog w base spare held 112 v x ps) :
    ∃ d : Bd, v = d.val ∧ d.In w w.heap.size := by
  have hC : Tryz.prog.cellsOf 112 = 4 := by kernel_rfl
  obtain ⟨cs, rfl, hsz⟩ := okWide_struct Tryz.underlying112 hv
  obtain ⟨fuel, hf⟩ := h
  obtain ⟨l⟩ := cs
  match l, hsz.trans hC with
  | [v0, v1, v2, v3], _ =>
    obtain ⟨d, e, hd⟩ := open_bcell hf
    refine ⟨d, ?_, hd⟩
    rw [e]; rfl

set_option maxRecDepth 100000 in
/-- An argument of the type []laws.Binding. -/
theorem open_binds {H : Type} {enc : TypeId × Value → H} {w : World} {r : Reach} {b0 base : Nat} {spare : Nat → Bool} {held : Bool} {v : Value} {x : DataW H} {ps : List MemPlace} (hv : Value.okWide Tryz.prog w r b0 52 v) (h : DataW.Trod enc Tryz.prog w base spare held 52 v x ps) :
    ∃ (A : Option Addr) (c : Nat) (l : List Bd), v = .slice A l.length c ∧ Bd.E.LIn w w.heap.size A c l := by
  have hC : Tryz.prog.cellsOf 112 = 4 := by kernel_rfl
  obtain ⟨a0, len0, cap0, rfl⟩ := okWide_slice Tryz.underlying52 hv
  obtain ⟨fuel, hf⟩ := h
  have hvc : ∀ cs, DataW.trod enc Tryz.prog w base spare held fuel 52 cs = some (x, ps) → ∃ (A : Option Addr) (c : Nat) (l : List Bd), cs = [.slice A l.length c] ∧ Bd.E.LIn w w.heap.size A c l := by
    intro cs h
    rcases DataW.trod_slice Tryz.underlying52 h with ⟨rfl, _⟩ | ⟨a, len, cap, elems, rest, n, rfl, rfl, _, _, hl, hm, hlen, hel, _⟩
    · exact ⟨none, 0, [], rfl, Elem.LIn.nil_ (by omega) (fun _ => rfl)⟩
    · have key : ∀ i, i < len → ∃ d : Bd, d.In w w.heap.size ∧ ∀ j u, d.cells[j]? = some u → w.cell? (a.add (i * 4 + j)) = some u := by
        intro i hi
        have hi' := hel i hi
        rw [List.getElem?_eq_getElem (by omega)] at hi'
        obtain ⟨cs', hcs, ht⟩ := Option.bind_eq_some_iff.1 hi'
        rw [hC] at hcs
        obtain ⟨_, hlen', hat⟩ := World.cells?_some hcs
        match cs', hlen' with
        | [v0, v1, v2, v3], _ =>
          obtain ⟨d, e, hd⟩ := open_bcell ht
          refine ⟨d, hd, fun j u hu => ?_⟩
          rw [← e] at hu
          have hj : j < 4 := (List.getElem?_eq_some_iff.1 hu).1
          have b := hat j (by simpa using hj)
          rw [Go.Deep.add_add] at b
          rw [b]
          exact hu
      obtain ⟨l, hll, hp⟩ := list_of len key
      refine ⟨some a, cap, l, by rw [hll], ⟨by omega, by unfold maxLen at hm; omega⟩, by simp, fun hne => ?_, fun d hd => ?_⟩
      · have hpos : 0 < l.length := List.length_pos_iff.2 hne
        have h0 : w.cell? (a.add (0 * 4 + 0)) = some (.string l[0].t) := (hp 0 _ (List.getElem?_eq_getElem hpos)).2 0 _ rfl
        have hsp : a.spot = none := by
          have := spot_of_cell h0
          simpa [Addr.add] using this
        refine ⟨a.block, a.off, by rw [← hsp], ?_, ?_⟩
        · have := World.block_lt_of_cell? w _ h0
          simpa [Addr.add] using this
        · intro j u hu
          have hj : j < 4 * l.length := by have h := (List.getElem?_eq_some_iff.1 hu).1; rw [Elem.cellsL_length] at h; exact h
          have hi : l[j / 4]? = some l[j / 4] := List.getElem?_eq_getElem (by omega)
          have g := Elem.cellsL_get (E := Bd.E) hi (j := j % 4) (show j % 4 < 4 by omega)
          have e4 : Bd.E.n = 4 := rfl
          rw [e4, show 4 * (j / 4) + j % 4 = j by omega, hu] at g
          have b := (hp _ _ hi).2 (j % 4) u g.symm
          rw [add_plain a hsp] at b
          rwa [show j / 4 * 4 + j % 4 = j by omega] at b
      · obtain ⟨i, hi⟩ := List.mem_iff_getElem?.1 hd
        exact (hp i d hi).1
  obtain ⟨A, c, l, e, hl⟩ := hvc _ hf
  have e' : Value.slice a0 len0 cap0 = .slice A l.length c := by simpa [Value.cells] using e
  exact ⟨A, c, l, e', hl⟩
end Go.Proofs.YtnldlbglgalbaabGreat

namespace Go.Proofs.YtnldlbglgalbaabGreat
open Go.ChangeShapes Go.WideShapes Go.ChangeAt Go.RowKit

set_option maxRecDepth 100000 in
/-- The cells of a record of rules. -/
theorem open_rcell {H : Type} {enc : TypeId × Value → H} {w : World} {base : Nat} {spare : Nat → Bool} {held : Bool} {fuel : Nat} {v0 v1 v2 : Value} {x : DataW H × List MemPlace} (ht : DataW.trod enc Tryz.prog w base spare held fuel 24 [v0, v1, v2] = some x) :
    ∃ d : Ru, [v0, v1, v2] = d.cells ∧ d.In w w.heap.size := by
  have c40 : Tryz.prog.cellsOf 22 = 1 := by kernel_rfl
  obtain ⟨xs, n', rfl, _, hcl, hxl, hf⟩ := DataW.trod_struct Tryz.underlying24 ht
  have g0 := hf 0 _ rfl
  have g1 := hf 1 _ rfl
  have g2 := hf 2 _ rfl
  have hxl' : xs.length = 3 := hxl
  change DataW.trod enc Tryz.prog w base spare held n' 22 (List.take (Tryz.prog.cellsOf 22) [v0, v1, v2]) = xs[0]? at g0
  change DataW.trod enc Tryz.prog w base spare held n' 22 (List.take (Tryz.prog.cellsOf 22) [v1, v2]) = xs[1]? at g1
  change DataW.trod enc Tryz.prog w base spare held n' 22 (List.take (Tryz.prog.cellsOf 22) [v2]) = xs[2]? at g2
  rw [c40, List.getElem?_eq_getElem (by omega)] at g0 g1 g2
  obtain ⟨A0, c0, l0, e0, h0⟩ := open_scells n' _ _ g0
  obtain ⟨A1, c1, l1, e1, h1⟩ := open_scells n' _ _ g1
  obtain ⟨A2, c2, l2, e2, h2⟩ := open_scells n' _ _ g2
  simp at e0 e1 e2
  subst e0 e1 e2
  exact ⟨⟨A0, c0, l0, A1, c1, l1, A2, c2, l2⟩, rfl, h0, h1, h2⟩

set_option maxRecDepth 100000 in
theorem open_brow {H : Type} {enc : TypeId × Value → H} {w : World} {base : Nat} {spare : Nat → Bool} {held : Bool} {fuel : Nat} {x : DataW H × List MemPlace} (cs : List Value) (h : DataW.trod enc Tryz.prog w base spare held fuel 52 cs = some x) :
    ∃ (A : Option Addr) (c : Nat) (l : List Bd), cs = [.slice A l.length c] ∧ Bd.E.LIn w w.heap.size A c l := by
  have hC : Tryz.prog.cellsOf 112 = 4 := by kernel_rfl
  obtain ⟨x, ps⟩ := x
  rcases DataW.trod_slice Tryz.underlying52 h with ⟨rfl, _⟩ | ⟨a, len, cap, elems, rest, n, rfl, rfl, _, _, hl, hm, hlen, hel, _⟩
  · exact ⟨none, 0, [], rfl, Elem.LIn.nil_ (by omega) (fun _ => rfl)⟩
  · have key : ∀ i, i < len → ∃ d : Bd, d.In w w.heap.size ∧ ∀ j u, d.cells[j]? = some u → w.cell? (a.add (i * 4 + j)) = some u := by
      intro i hi
      have hi' := hel i hi
      rw [List.getElem?_eq_getElem (by omega)] at hi'
      obtain ⟨cs', hcs, ht⟩ := Option.bind_eq_some_iff.1 hi'
      rw [hC] at hcs
      obtain ⟨_, hlen', hat⟩ := World.cells?_some hcs
      match cs', hlen' with
      | [v0, v1, v2, v3], _ =>
        obtain ⟨d, e, hd⟩ := open_bcell ht
        refine ⟨d, hd, fun j u hu => ?_⟩
        rw [← e] at hu
        have hj : j < 4 := (List.getElem?_eq_some_iff.1 hu).1
        have b := hat j (by simpa using hj)
        rw [Go.Deep.add_add] at b
        rw [b]
        exact hu
    obtain ⟨l, hll, hp⟩ := list_of len key
    refine ⟨some a, cap, l, by rw [hll], ⟨by omega, by unfold maxLen at hm; omega⟩, by simp, fun hne => ?_, fun d hd => ?_⟩
    · have hpos : 0 < l.length := List.length_pos_iff.2 hne
      have h0 : w.cell? (a.add (0 * 4 + 0)) = some (.string l[0].t) := (hp 0 _ (List.getElem?_eq_getElem hpos)).2 0 _ rfl
      have hsp : a.spot = none := by
        have := spot_of_cell h0
        simpa [Addr.add] using this
      refine ⟨a.block, a.off, by rw [← hsp], ?_, ?_⟩
      · have := World.block_lt_of_cell? w _ h0
        simpa [Addr.add] using this
      · intro j u hu
        have hj : j < 4 * l.length := by have h := (List.getElem?_eq_some_iff.1 hu).1; rw [Elem.cellsL_length] at h; exact h
        have hi : l[j / 4]? = some l[j / 4] := List.getElem?_eq_getElem (by omega)
        have g := Elem.cellsL_get (E := Bd.E) hi (j := j % 4) (show j % 4 < 4 by omega)
        have e4 : Bd.E.n = 4 := rfl
        rw [e4, show 4 * (j / 4) + j % 4 = j by omega, hu] at g
        have b := (hp _ _ hi).2 (j % 4) u g.symm
        rw [add_plain a hsp] at b
        rwa [show j / 4 * 4 + j % 4 = j by omega] at b
    · obtain ⟨i, hi⟩ := List.mem_iff_getElem?.1 hd
      exact (hp i d hi).1

set_option maxRecDepth 100000 in
theorem open_rrow {H : Type} {enc : TypeId × Value → H} {w : World} {base : Nat} {spare : Nat → Bool} {held : Bool} {fuel : Nat} {x : DataW H × List MemPlace} (cs : List Value) (h : DataW.trod enc Tryz.prog w base spare held fuel 53 cs = some x) :
    ∃ (A : Option Addr) (c : Nat) (l : List Ru), cs = [.slice A l.length c] ∧ Ru.E.LIn w w.heap.size A c l := by
  have hC : Tryz.prog.cellsOf 24 = 3 := by kernel_rfl
  obtain ⟨x, ps⟩ := x
  rcases DataW.trod_slice Tryz.underlying53 h with ⟨rfl, _⟩ | ⟨a, len, cap, elems, rest, n, rfl, rfl, _, _, hl, hm, hlen, hel, _⟩
  · exact ⟨none, 0, [], rfl, Elem.LIn.nil_ (by omega) (fun _ => rfl)⟩
  · have key : ∀ i, i < len → ∃ d : Ru, d.In w w.heap.size ∧ ∀ j u, d.cells[j]? = some u → w.cell? (a.add (i * 3 + j)) = some u := by
      intro i hi
      have hi' := hel i hi
      rw [List.getElem?_eq_getElem (by omega)] at hi'
      obtain ⟨cs', hcs, ht⟩ := Option.bind_eq_some_iff.1 hi'
      rw [hC] at hcs
      obtain ⟨_, hlen', hat⟩ := World.cells?_some hcs
      match cs', hlen' with
      | [v0, v1, v2], _ =>
        obtain ⟨d, e, hd⟩ := open_rcell ht
        refine ⟨d, hd, fun j u hu => ?_⟩
        rw [← e] at hu
        have hj : j < 3 := (List.getElem?_eq_some_iff.1 hu).1
        have b := hat j (by simpa using hj)
        rw [Go.Deep.add_add] at b
        rw [b]
        exact hu
    obtain ⟨l, hll, hp⟩ := list_of len key
    refine ⟨some a, cap, l, by rw [hll], ⟨by omega, by unfold maxLen at hm; omega⟩, by simp, fun hne => ?_, fun d hd => ?_⟩
    · have hpos : 0 < l.length := List.length_pos_iff.2 hne
      have h0 : w.cell? (a.add (0 * 3 + 0)) = some (.slice l[0].A0 l[0].l0.length l[0].c0) := (hp 0 _ (List.getElem?_eq_getElem hpos)).2 0 _ rfl
      have hsp : a.spot = none := by
        have := spot_of_cell h0
        simpa [Addr.add] using this
      refine ⟨a.block, a.off, by rw [← hsp], ?_, ?_⟩
      · have := World.block_lt_of_cell? w _ h0
        simpa [Addr.add] using this
      · intro j u hu
        have hj : j < 3 * l.length := by have h := (List.getElem?_eq_some_iff.1 hu).1; rw [Elem.cellsL_length] at h; exact h
        have hi : l[j / 3]? = some l[j / 3] := List.getElem?_eq_getElem (by omega)
        have g := Elem.cellsL_get (E := Ru.E) hi (j := j % 3) (show j % 3 < 3 by omega)
        have e4 : Ru.E.n = 3 := rfl
        rw [e4, show 3 * (j / 3) + j % 3 = j by omega, hu] at g
        have b := (hp _ _ hi).2 (j % 3) u g.symm
        rw [add_plain a hsp] at b
        rwa [show j / 3 * 3 + j % 3 = j by omega] at b
    · obtain ⟨i, hi⟩ := List.mem_iff_getElem?.1 hd
      exact (hp i d hi).1

set_option maxRecDepth 100000 in
/-- An argument of the type laws.Expander. -/
theorem open_expander {H : Type} {enc : TypeId × Value → H} {w : World} {r : Reach} {b0 base : Nat} {spare : Nat → Bool} {held : Bool} {v : Value} {x : DataW H} {ps : List MemPlace} (hv : Value.okWide Tryz.prog w r b0 55 v) (h : DataW.Trod enc Tryz.prog w base spare held 55 v x ps) :
    ∃ d : Ex, v = d.val ∧ d.In w w.heap.size := by
  have cI : Tryz.prog.cellsOf 3 = 1 := by kernel_rfl
  have cB : Tryz.prog.cellsOf 52 = 1 := by kernel_rfl
  have cR : Tryz.prog.cellsOf 53 = 1 := by kernel_rfl
  have hC : Tryz.prog.cellsOf 55 = 5 := by kernel_rfl
  obtain ⟨cs, rfl, hsz⟩ := okWide_struct Tryz.underlying55 hv
  obtain ⟨fuel, hf⟩ := h
  obtain ⟨l⟩ := cs
  match l, hsz.trans hC with
  | [v0, v1, v2, v3, v4], _ =>
    obtain ⟨xs, n', rfl, _, hcl, hxl, hf⟩ := DataW.trod_struct Tryz.underlying55 hf
    have g0 := hf 0 _ rfl
    have g1 := hf 1 _ rfl
    have g2 := hf 2 _ rfl
    have g3 := hf 3 _ rfl
    have g4 := hf 4 _ rfl
    have hxl' : xs.length = 5 := hxl
    change DataW.trod enc Tryz.prog w base spare held n' 52 (List.take (Tryz.prog.cellsOf 52) [v0, v1, v2, v3, v4]) = xs[0]? at g0
    change DataW.trod enc Tryz.prog w base spare held n' 53 (List.take (Tryz.prog.cellsOf 53) [v1, v2, v3, v4]) = xs[1]? at g1
    change DataW.trod enc Tryz.prog w base spare held n' 3 (List.take (Tryz.prog.cellsOf 3) [v2, v3, v4]) = xs[2]? at g2
    change DataW.trod enc Tryz.prog w base spare held n' 3 (List.take (Tryz.prog.cellsOf 3) [v3, v4]) = xs[3]? at g3
    change DataW.trod enc Tryz.prog w base spare held n' 3 (List.take (Tryz.prog.cellsOf 3) [v4]) = xs[4]? at g4
    rw [cB, List.getElem?_eq_getElem (by omega)] at g0
    rw [cR, List.getElem?_eq_getElem (by omega)] at g1
    rw [cI, List.getElem?_eq_getElem (by omega)] at g2 g3 g4
    obtain ⟨A0, c0, l0, e0, h0⟩ := open_brow _ g0
    obtain ⟨A1, c1, l1, e1, h1⟩ := open_rrow _ g1
    obtain ⟨s, e2, _⟩ := DataW.trod_int Tryz.underlying3 g2
    obtain ⟨vv, e3, _⟩ := DataW.trod_int Tryz.underlying3 g3
    obtain ⟨t, e4, _⟩ := DataW.trod_int Tryz.underlying3 g4
    simp at e0 e1 e2 e3 e4
    subst e0 e1 e2 e3 e4
    exact ⟨⟨A0, c0, l0, A1, c1, l1, s, vv, t⟩, rfl, h0, h1⟩
end Go.Proofs.YtnldlbglgalbaabGreat
