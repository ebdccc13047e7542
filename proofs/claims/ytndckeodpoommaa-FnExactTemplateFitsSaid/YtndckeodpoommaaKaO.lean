/-
  Arguments of the types laws.Capture and []laws.Capture, opened (written by gen/tree.py).
-/
import Derived.Test.YtndckeodpoommaaPosts
import Derived.Test.YtndckeodpoommaaKoOpen
import Derived.Test.YtndckeodpoommaaKaB
import Derived.Test.YtndckeodpoommaaPostS5
namespace Go.Proofs.Ytndckeodpoommaa
open Go.ChangeShapes Go.WideShapes Go.ChangeAt Go.RowKit

set_option maxRecDepth 100000 in
set_option maxHeartbeats 1000000 in
theorem open_Karow {H : Type} {enc : TypeId × Value → H} {w : World} {base : Nat} {spare : Nat → Bool} {held : Bool} : ∀ (fuel : Nat) (cs : List Value) (x : DataW H × List MemPlace), DataW.trod enc Try.prog w base spare held fuel 82 cs = some x →
    ∃ (A : Option Addr) (c : Nat) (l : List (Tr Ka)), cs = [.slice A l.length c] ∧ Ka.E.LIn w w.heap.size A c l := by
  intro fuel
  induction fuel using Nat.strongRecOn with
  | _ fuel ih =>
    intro cs x h
    have hC : Try.prog.cellsOf 119 = 12 := by kernel_rfl
    rcases DataW.trod_slice Try.underlying82 h with ⟨rfl, _⟩ | ⟨a, len, cap, elems, rest, n, rfl, rfl, _, _, hl, hm, hlen, hel, _⟩
    · exact ⟨none, 0, [], rfl, Elem.LIn.nil_ (by omega) (fun _ => rfl)⟩
    · have key : ∀ i, i < len → ∃ d : Tr Ka, Ka.E.In w w.heap.size d ∧ ∀ j u, (Ka.E.cells d)[j]? = some u → w.cell? (a.add (i * 12 + j)) = some u := by
        intro i hi
        have hi' := hel i hi
        rw [List.getElem?_eq_getElem (by omega)] at hi'
        obtain ⟨cs', hcs, ht⟩ := Option.bind_eq_some_iff.1 hi'
        rw [hC] at hcs
        obtain ⟨_, hlen', hat⟩ := World.cells?_some hcs
        match cs', hlen' with
        | [v0, v1, v2, v3, v4, v5, v6, v7, v8, v9, v10, v11], _ =>
          obtain ⟨xs, n', rfl, _, hcl, hxl, hf⟩ := DataW.trod_struct Try.underlying119 ht
          have g0 := hf 0 _ rfl
          change DataW.trod enc Try.prog w base spare held n' 85 (List.take (Try.prog.cellsOf 85) [v0, v1, v2, v3, v4, v5, v6, v7, v8, v9, v10, v11]) = xs[0]? at g0
          rw [(show Try.prog.cellsOf 85 = 5 by kernel_rfl), List.getElem?_eq_getElem (by have : xs.length = 4 := hxl; omega)] at g0
          change DataW.trod enc Try.prog w base spare held n' 85 [v0, v1, v2, v3, v4] = _ at g0
          have g1 := hf 1 _ rfl
          change DataW.trod enc Try.prog w base spare held n' 3 (List.take (Try.prog.cellsOf 3) [v5, v6, v7, v8, v9, v10, v11]) = xs[1]? at g1
          rw [(show Try.prog.cellsOf 3 = 1 by kernel_rfl), List.getElem?_eq_getElem (by have : xs.length = 4 := hxl; omega)] at g1
          change DataW.trod enc Try.prog w base spare held n' 3 [v5] = _ at g1
          have g2 := hf 2 _ rfl
          change DataW.trod enc Try.prog w base spare held n' 85 (List.take (Try.prog.cellsOf 85) [v6, v7, v8, v9, v10, v11]) = xs[2]? at g2
          rw [(show Try.prog.cellsOf 85 = 5 by kernel_rfl), List.getElem?_eq_getElem (by have : xs.length = 4 := hxl; omega)] at g2
          change DataW.trod enc Try.prog w base spare held n' 85 [v6, v7, v8, v9, v10] = _ at g2
          have g3 := hf 3 _ rfl
          change DataW.trod enc Try.prog w base spare held n' 82 (List.take (Try.prog.cellsOf 82) [v11]) = xs[3]? at g3
          rw [(show Try.prog.cellsOf 82 = 1 by kernel_rfl), List.getElem?_eq_getElem (by have : xs.length = 4 := hxl; omega)] at g3
          change DataW.trod enc Try.prog w base spare held n' 82 [v11] = _ at g3
          obtain ⟨x0, e0, in0⟩ := open_Scells g0
          simp only [S.cells, List.cons.injEq, and_true] at e0
          obtain ⟨q0, q1, q2, q3, q4⟩ := e0
          subst q0 q1 q2 q3 q4
          obtain ⟨x1, e1, _, wf1⟩ := DataW.trod_int Try.underlying3 g1
          simp only [List.cons.injEq, and_true] at e1
          subst e1
          obtain ⟨x2, e2, in2⟩ := open_Scells g2
          simp only [S.cells, List.cons.injEq, and_true] at e2
          obtain ⟨q6, q7, q8, q9, q10⟩ := e2
          subst q6 q7 q8 q9 q10
          obtain ⟨kA, kC, kL, e3, kin⟩ := ih n' (by omega) _ _ g3
          simp only [List.cons.injEq, and_true] at e3
          subst e3
          refine ⟨(Tr.mk (⟨x0, x1, x2⟩ : Ka) kA kC kL), Ka.E_mk ⟨in0, in2⟩ kin, fun j u hu => ?_⟩
          have hj : j < 12 := by have h := (List.getElem?_eq_some_iff.1 hu).1; rw [Ka.E.len] at h; exact h
          have b := hat j (by simpa using hj)
          rw [Go.Deep.add_add] at b
          rw [b]
          exact hu
      obtain ⟨l, hll, hp⟩ := list_of len key
      refine ⟨some a, cap, l, by rw [hll], ⟨by omega, by unfold maxLen at hm; omega⟩, by simp, fun hne => ?_, fun d hd => ?_⟩
      · have hpos : 0 < l.length := List.length_pos_iff.2 hne
        have h0 : w.cell? (a.add (0 * 12 + 0)) = some _ := (hp 0 _ (List.getElem?_eq_getElem hpos)).2 0 _ rfl
        have hsp : a.spot = none := by
          have := spot_of_cell h0
          simpa [Addr.add] using this
        refine ⟨a.block, a.off, by rw [← hsp], ?_, ?_⟩
        · have := World.block_lt_of_cell? w _ h0
          simpa [Addr.add] using this
        · intro j u hu
          have hj : j < 12 * l.length := by have h := (List.getElem?_eq_some_iff.1 hu).1; rw [Elem.cellsL_length] at h; exact h
          have hi : l[j / 12]? = some l[j / 12] := List.getElem?_eq_getElem (by omega)
          have g := Elem.cellsL_get (E := Ka.E) hi (j := j % 12) (show j % 12 < 12 by omega)
          have e4 : Ka.E.n = 12 := rfl
          rw [e4, show 12 * (j / 12) + j % 12 = j by omega, hu] at g
          have b := (hp _ _ hi).2 (j % 12) u g.symm
          rw [add_plain a hsp] at b
          rwa [show j / 12 * 12 + j % 12 = j by omega] at b
      · obtain ⟨i, hi⟩ := List.mem_iff_getElem?.1 hd
        exact (hp i d hi).1
set_option maxRecDepth 100000 in
/-- An argument of the type []laws.Capture. -/
theorem open_KaL {H : Type} {enc : TypeId × Value → H} {w : World} {r : Reach} {b0 base : Nat} {spare : Nat → Bool} {held : Bool} {v : Value} {x : DataW H} {ps : List MemPlace} (hv : Value.okWide Try.prog w r b0 82 v) (h : DataW.Trod enc Try.prog w base spare held 82 v x ps) :
    ∃ (A : Option Addr) (c : Nat) (l : List (Tr Ka)), v = .slice A l.length c ∧ Ka.E.LIn w w.heap.size A c l := by
  obtain ⟨a0, len0, cap0, rfl⟩ := okWide_slice Try.underlying82 hv
  obtain ⟨fuel, hf⟩ := h
  obtain ⟨A, c, l, e, hl⟩ := open_Karow _ _ _ hf
  have e' : Value.slice a0 len0 cap0 = .slice A l.length c := by simpa [Value.cells] using e
  exact ⟨A, c, l, e', hl⟩
set_option maxRecDepth 100000 in
set_option maxHeartbeats 1000000 in
/-- An argument of the type laws.Capture. -/
theorem open_Ka {H : Type} {enc : TypeId × Value → H} {w : World} {r : Reach} {b0 base : Nat} {spare : Nat → Bool} {held : Bool} {v : Value} {x : DataW H} {ps : List MemPlace} (hv : Value.okWide Try.prog w r b0 119 v) (h : DataW.Trod enc Try.prog w base spare held 119 v x ps) :
    ∃ d : Tr Ka, v = Ka.val d ∧ Ka.E.In w w.heap.size d := by
  have hC : Try.prog.cellsOf 119 = 12 := by kernel_rfl
  obtain ⟨cs, rfl, hsz⟩ := okWide_struct Try.underlying119 hv
  obtain ⟨fuel, ht⟩ := h
  obtain ⟨l⟩ := cs
  match l, hsz.trans hC with
  | [v0, v1, v2, v3, v4, v5, v6, v7, v8, v9, v10, v11], _ =>
    obtain ⟨xs, n', rfl, _, hcl, hxl, hf⟩ := DataW.trod_struct Try.underlying119 ht
    have g0 := hf 0 _ rfl
    change DataW.trod enc Try.prog w base spare held n' 85 (List.take (Try.prog.cellsOf 85) [v0, v1, v2, v3, v4, v5, v6, v7, v8, v9, v10, v11]) = xs[0]? at g0
    rw [(show Try.prog.cellsOf 85 = 5 by kernel_rfl), List.getElem?_eq_getElem (by have : xs.length = 4 := hxl; omega)] at g0
    change DataW.trod enc Try.prog w base spare held n' 85 [v0, v1, v2, v3, v4] = _ at g0
    have g1 := hf 1 _ rfl
    change DataW.trod enc Try.prog w base spare held n' 3 (List.take (Try.prog.cellsOf 3) [v5, v6, v7, v8, v9, v10, v11]) = xs[1]? at g1
    rw [(show Try.prog.cellsOf 3 = 1 by kernel_rfl), List.getElem?_eq_getElem (by have : xs.length = 4 := hxl; omega)] at g1
    change DataW.trod enc Try.prog w base spare held n' 3 [v5] = _ at g1
    have g2 := hf 2 _ rfl
    change DataW.trod enc Try.prog w base spare held n' 85 (List.take (Try.prog.cellsOf 85) [v6, v7, v8, v9, v10, v11]) = xs[2]? at g2
    rw [(show Try.prog.cellsOf 85 = 5 by kernel_rfl), List.getElem?_eq_getElem (by have : xs.length = 4 := hxl; omega)] at g2
    change DataW.trod enc Try.prog w base spare held n' 85 [v6, v7, v8, v9, v10] = _ at g2
    have g3 := hf 3 _ rfl
    change DataW.trod enc Try.prog w base spare held n' 82 (List.take (Try.prog.cellsOf 82) [v11]) = xs[3]? at g3
    rw [(show Try.prog.cellsOf 82 = 1 by kernel_rfl), List.getElem?_eq_getElem (by have : xs.length = 4 := hxl; omega)] at g3
    change DataW.trod enc Try.prog w base spare held n' 82 [v11] = _ at g3
    obtain ⟨x0, e0, in0⟩ := open_Scells g0
    simp only [S.cells, List.cons.injEq, and_true] at e0
    obtain ⟨q0, q1, q2, q3, q4⟩ := e0
    subst q0 q1 q2 q3 q4
    obtain ⟨x1, e1, _, wf1⟩ := DataW.trod_int Try.underlying3 g1
    simp only [List.cons.injEq, and_true] at e1
    subst e1
    obtain ⟨x2, e2, in2⟩ := open_Scells g2
    simp only [S.cells, List.cons.injEq, and_true] at e2
    obtain ⟨q6, q7, q8, q9, q10⟩ := e2
    subst q6 q7 q8 q9 q10
    obtain ⟨kA, kC, kL, e3, kin⟩ := open_Karow n' _ _ g3
    simp only [List.cons.injEq, and_true] at e3
    subst e3
    exact ⟨(Tr.mk (⟨x0, x1, x2⟩ : Ka) kA kC kL), rfl, Ka.E_mk ⟨in0, in2⟩ kin⟩
end Go.Proofs.Ytndckeodpoommaa
