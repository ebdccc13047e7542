/-
  The cells of a Core that is a field of an argument, opened (written by gen/rec.py).
-/
import Derived.Test.YtndckeodpoommaaKoOpen
import Derived.Test.YtndckeodpoommaaPosts
import Derived.Test.YtndckeodpoommaaRUn
namespace Go.Proofs.Ytndckeodpoommaa
open Go.ChangeShapes Go.WideShapes Go.ChangeAt Go.RowKit

set_option maxRecDepth 100000 in
set_option maxHeartbeats 1000000 in
theorem open_Kocells {H : Type} {enc : TypeId × Value → H} {w : World} {base : Nat} {spare : Nat → Bool} {held : Bool} {fuel : Nat} {v0 v1 v2 v3 v4 v5 v6 v7 : Value} {x : DataW H × List MemPlace} (ht : DataW.trod enc Try.prog w base spare held fuel 65 [v0, v1, v2, v3, v4, v5, v6, v7] = some x) :
    ∃ d : Tr Ko, [v0, v1, v2, v3, v4, v5, v6, v7] = Ko.E.cells d ∧ Ko.E.In w w.heap.size d := by
  obtain ⟨xs, n', rfl, _, hcl, hxl, hf⟩ := DataW.trod_struct Try.underlying65 ht
  have g0 := hf 0 _ rfl
  change DataW.trod enc Try.prog w base spare held n' 3 (List.take (Try.prog.cellsOf 3) [v0, v1, v2, v3, v4, v5, v6, v7]) = xs[0]? at g0
  rw [(show Try.prog.cellsOf 3 = 1 by kernel_rfl), List.getElem?_eq_getElem (by have : xs.length = 5 := hxl; omega)] at g0
  change DataW.trod enc Try.prog w base spare held n' 3 [v0] = _ at g0
  have g1 := hf 1 _ rfl
  change DataW.trod enc Try.prog w base spare held n' 3 (List.take (Try.prog.cellsOf 3) [v1, v2, v3, v4, v5, v6, v7]) = xs[1]? at g1
  rw [(show Try.prog.cellsOf 3 = 1 by kernel_rfl), List.getElem?_eq_getElem (by have : xs.length = 5 := hxl; omega)] at g1
  change DataW.trod enc Try.prog w base spare held n' 3 [v1] = _ at g1
  have g2 := hf 2 _ rfl
  change DataW.trod enc Try.prog w base spare held n' 28 (List.take (Try.prog.cellsOf 28) [v2, v3, v4, v5, v6, v7]) = xs[2]? at g2
  rw [(show Try.prog.cellsOf 28 = 1 by kernel_rfl), List.getElem?_eq_getElem (by have : xs.length = 5 := hxl; omega)] at g2
  change DataW.trod enc Try.prog w base spare held n' 28 [v2] = _ at g2
  have g3 := hf 3 _ rfl
  change DataW.trod enc Try.prog w base spare held n' 62 (List.take (Try.prog.cellsOf 62) [v3, v4, v5, v6, v7]) = xs[3]? at g3
  rw [(show Try.prog.cellsOf 62 = 4 by kernel_rfl), List.getElem?_eq_getElem (by have : xs.length = 5 := hxl; omega)] at g3
  change DataW.trod enc Try.prog w base spare held n' 62 [v3, v4, v5, v6] = _ at g3
  have g4 := hf 4 _ rfl
  change DataW.trod enc Try.prog w base spare held n' 63 (List.take (Try.prog.cellsOf 63) [v7]) = xs[4]? at g4
  rw [(show Try.prog.cellsOf 63 = 1 by kernel_rfl), List.getElem?_eq_getElem (by have : xs.length = 5 := hxl; omega)] at g4
  change DataW.trod enc Try.prog w base spare held n' 63 [v7] = _ at g4
  obtain ⟨x0, e0, _, wf0⟩ := DataW.trod_int Try.underlying3 g0
  simp only [List.cons.injEq, and_true] at e0
  subst e0
  obtain ⟨x1, e1, _, wf1⟩ := DataW.trod_int Try.underlying3 g1
  simp only [List.cons.injEq, and_true] at e1
  subst e1
  obtain ⟨xa2, xc2, x2, e2, in2, wf2⟩ := open_introwf g2
  simp only [List.cons.injEq, and_true] at e2
  subst e2
  obtain ⟨x3, e3, in3⟩ := open_Dcells g3
  simp only [D.cells, List.cons.injEq, and_true] at e3
  obtain ⟨q3, q4, q5, q6⟩ := e3
  subst q3 q4 q5 q6
  obtain ⟨kA, kC, kL, e4, kin⟩ := open_Korow n' _ _ g4
  simp only [List.cons.injEq, and_true] at e4
  subst e4
  exact ⟨(Tr.mk (⟨x0, x1, xa2, xc2, x2, x3⟩ : Ko) kA kC kL), rfl, Ko.E_mk ⟨in2, in3, ⟨wf1, wf2⟩⟩ kin⟩
end Go.Proofs.Ytndckeodpoommaa

namespace Go.Proofs.Ytndckeodpoommaa
open Go.ChangeShapes Go.WideShapes Go.ChangeAt Go.RowKit

set_option maxRecDepth 100000 in
set_option maxHeartbeats 1000000 in
theorem open_Uncells {H : Type} {enc : TypeId × Value → H} {w : World} {base : Nat} {spare : Nat → Bool} {held : Bool} {fuel : Nat} {v0 v1 v2 v3 v4 v5 v6 v7 v8 v9 : Value} {x : DataW H × List MemPlace} (ht : DataW.trod enc Try.prog w base spare held fuel 67 [v0, v1, v2, v3, v4, v5, v6, v7, v8, v9] = some x) :
    ∃ d : Un, [v0, v1, v2, v3, v4, v5, v6, v7, v8, v9] = Un.E.cells d ∧ Un.E.In w w.heap.size d := by
  obtain ⟨xs, n', rfl, _, hcl, hxl, hf⟩ := DataW.trod_struct Try.underlying67 ht
  have g0 := hf 0 _ rfl
  change DataW.trod enc Try.prog w base spare held n' 9 (List.take (Try.prog.cellsOf 9) [v0, v1, v2, v3, v4, v5, v6, v7, v8, v9]) = xs[0]? at g0
  rw [(show Try.prog.cellsOf 9 = 1 by kernel_rfl), List.getElem?_eq_getElem (by have : xs.length = 3 := hxl; omega)] at g0
  change DataW.trod enc Try.prog w base spare held n' 9 [v0] = _ at g0
  have g1 := hf 1 _ rfl
  change DataW.trod enc Try.prog w base spare held n' 28 (List.take (Try.prog.cellsOf 28) [v1, v2, v3, v4, v5, v6, v7, v8, v9]) = xs[1]? at g1
  rw [(show Try.prog.cellsOf 28 = 1 by kernel_rfl), List.getElem?_eq_getElem (by have : xs.length = 3 := hxl; omega)] at g1
  change DataW.trod enc Try.prog w base spare held n' 28 [v1] = _ at g1
  have g2 := hf 2 _ rfl
  change DataW.trod enc Try.prog w base spare held n' 65 (List.take (Try.prog.cellsOf 65) [v2, v3, v4, v5, v6, v7, v8, v9]) = xs[2]? at g2
  rw [(show Try.prog.cellsOf 65 = 8 by kernel_rfl), List.getElem?_eq_getElem (by have : xs.length = 3 := hxl; omega)] at g2
  change DataW.trod enc Try.prog w base spare held n' 65 [v2, v3, v4, v5, v6, v7, v8, v9] = _ at g2
  obtain ⟨x0, e0, _, in0⟩ := DataW.trod_string Try.underlying9 g0
  simp only [List.cons.injEq, and_true] at e0
  subst e0
  obtain ⟨xa1, xc1, x1, e1, in1, _⟩ := open_introwf g1
  simp only [List.cons.injEq, and_true] at e1
  subst e1
  obtain ⟨x2, e2, in2⟩ := open_Kocells g2
  change @Eq (List Value) _ [.int .i64 x2.a.k, .int .i64 x2.a.n, .slice x2.a.sA x2.a.s.length x2.a.sC, .int .i64 x2.a.d.k, .int .i64 x2.a.d.n, .string x2.a.d.t, .slice x2.a.d.A x2.a.d.l.length x2.a.d.c, .slice x2.A x2.l.length x2.c] at e2
  simp only [List.cons.injEq, and_true] at e2
  obtain ⟨q2_0, q2_1, q2_2, q2_3, q2_4, q2_5, q2_6, q2_7⟩ := e2
  subst q2_0 q2_1 q2_2 q2_3 q2_4 q2_5 q2_6 q2_7
  exact ⟨(⟨x0, xa1, xc1, x1, x2⟩ : Un), rfl, Un.E_mk ⟨in0, in1, in2⟩⟩
set_option maxRecDepth 100000 in
/-- An argument of the type laws.Unit. -/
theorem open_Un {H : Type} {enc : TypeId × Value → H} {w : World} {r : Reach} {b0 base : Nat} {spare : Nat → Bool} {held : Bool} {v : Value} {x : DataW H} {ps : List MemPlace} (hv : Value.okWide Try.prog w r b0 67 v) (h : DataW.Trod enc Try.prog w base spare held 67 v x ps) :
    ∃ d : Un, v = Un.val d ∧ Un.E.In w w.heap.size d := by
  have hC : Try.prog.cellsOf 67 = 10 := by kernel_rfl
  obtain ⟨cs, rfl, hsz⟩ := okWide_struct Try.underlying67 hv
  obtain ⟨fuel, ht⟩ := h
  obtain ⟨l⟩ := cs
  match l, hsz.trans hC with
  | [v0, v1, v2, v3, v4, v5, v6, v7, v8, v9], _ =>
    obtain ⟨d, e, hd⟩ := open_Uncells ht
    refine ⟨d, ?_, hd⟩
    rw [e]; rfl
set_option maxRecDepth 100000 in
set_option maxHeartbeats 1000000 in
theorem open_Unrow {H : Type} {enc : TypeId × Value → H} {w : World} {base : Nat} {spare : Nat → Bool} {held : Bool} {fuel : Nat} {cs : List Value} {x : DataW H × List MemPlace} (h : DataW.trod enc Try.prog w base spare held fuel 26 cs = some x) :
    ∃ (A : Option Addr) (c : Nat) (l : List Un), cs = [.slice A l.length c] ∧ Un.E.LIn w w.heap.size A c l := by
  have hC : Try.prog.cellsOf 67 = 10 := by kernel_rfl
  rcases DataW.trod_slice Try.underlying26 h with ⟨rfl, _⟩ | ⟨a, len, cap, elems, rest, n, rfl, rfl, _, _, hl, hm, hlen, hel, _⟩
  · exact ⟨none, 0, [], rfl, Elem.LIn.nil_ (by omega) (fun _ => rfl)⟩
  · have key : ∀ i, i < len → ∃ d : Un, Un.E.In w w.heap.size d ∧ ∀ j u, (Un.E.cells d)[j]? = some u → w.cell? (a.add (i * 10 + j)) = some u := by
      intro i hi
      have hi' := hel i hi
      rw [List.getElem?_eq_getElem (by omega)] at hi'
      obtain ⟨cs', hcs, ht⟩ := Option.bind_eq_some_iff.1 hi'
      rw [hC] at hcs
      obtain ⟨_, hlen', hat⟩ := World.cells?_some hcs
      match cs', hlen' with
      | [v0, v1, v2, v3, v4, v5, v6, v7, v8, v9], _ =>
        obtain ⟨d, e, hd⟩ := open_Uncells ht
        refine ⟨d, hd, fun j u hu => ?_⟩
        have hj : j < 10 := by have h := (List.getElem?_eq_some_iff.1 hu).1; rw [Un.E.len] at h; exact h
        have b := hat j (by simpa using hj)
        rw [Go.Deep.add_add] at b
        rw [b, e]
        exact hu
    obtain ⟨l, hll, hp⟩ := list_of len key
    refine ⟨some a, cap, l, by rw [hll], ⟨by omega, by unfold maxLen at hm; omega⟩, by simp, fun hne => ?_, fun d hd => ?_⟩
    · have hpos : 0 < l.length := List.length_pos_iff.2 hne
      have h0 : w.cell? (a.add (0 * 10 + 0)) = some _ := (hp 0 _ (List.getElem?_eq_getElem hpos)).2 0 _ rfl
      have hsp : a.spot = none := by
        have := spot_of_cell h0
        simpa [Addr.add] using this
      refine ⟨a.block, a.off, by rw [← hsp], ?_, ?_⟩
      · have := World.block_lt_of_cell? w _ h0
        simpa [Addr.add] using this
      · intro j u hu
        have hj : j < 10 * l.length := by have h := (List.getElem?_eq_some_iff.1 hu).1; rw [Elem.cellsL_length] at h; exact h
        have hi : l[j / 10]? = some l[j / 10] := List.getElem?_eq_getElem (by omega)
        have g := Elem.cellsL_get (E := Un.E) hi (j := j % 10) (show j % 10 < 10 by omega)
        have e4 : Un.E.n = 10 := rfl
        rw [e4, show 10 * (j / 10) + j % 10 = j by omega, hu] at g
        have b := (hp _ _ hi).2 (j % 10) u g.symm
        rw [add_plain a hsp] at b
        rwa [show j / 10 * 10 + j % 10 = j by omega] at b
    · obtain ⟨i, hi⟩ := List.mem_iff_getElem?.1 hd
      exact (hp i d hi).1
set_option maxRecDepth 100000 in
/-- An argument of the type []laws.Unit. -/
theorem open_UnL {H : Type} {enc : TypeId × Value → H} {w : World} {r : Reach} {b0 base : Nat} {spare : Nat → Bool} {held : Bool} {v : Value} {x : DataW H} {ps : List MemPlace} (hv : Value.okWide Try.prog w r b0 26 v) (h : DataW.Trod enc Try.prog w base spare held 26 v x ps) :
    ∃ (A : Option Addr) (c : Nat) (l : List Un), v = .slice A l.length c ∧ Un.E.LIn w w.heap.size A c l := by
  obtain ⟨a0, len0, cap0, rfl⟩ := okWide_slice Try.underlying26 hv
  obtain ⟨fuel, hf⟩ := h
  obtain ⟨A, c, l, e, hl⟩ := open_Unrow hf
  have e' : Value.slice a0 len0 cap0 = .slice A l.length c := by simpa [Value.cells] using e
  exact ⟨A, c, l, e', hl⟩
end Go.Proofs.Ytndckeodpoommaa
