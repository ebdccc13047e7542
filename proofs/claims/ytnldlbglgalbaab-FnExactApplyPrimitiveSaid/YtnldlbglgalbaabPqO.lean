/-
  Arguments of the type laws.Pair, opened (written by gen/rec.py).
-/
import Derived.Test.YtnldlbglgalbaabPosts
import Derived.Test.YtnldlbglgalbaabKoOpen
import Derived.Test.YtnldlbglgalbaabPqB
import Derived.Test.YtnldlbglgalbaabVuO
namespace Go.Proofs.Ytnldlbglgalbaab
open Go.ChangeShapes Go.WideShapes Go.ChangeAt Go.RowKit

set_option maxRecDepth 100000 in
set_option maxHeartbeats 1000000 in
theorem open_Pqcells {H : Type} {enc : TypeId × Value → H} {w : World} {base : Nat} {spare : Nat → Bool} {held : Bool} {fuel : Nat} {v0 v1 v2 v3 v4 v5 : Value} {x : DataW H × List MemPlace} (ht : DataW.trod enc Try.prog w base spare held fuel 42 [v0, v1, v2, v3, v4, v5] = some x) :
    ∃ d : Pq, [v0, v1, v2, v3, v4, v5] = Pq.E.cells d ∧ Pq.E.In w w.heap.size d := by
  obtain ⟨xs, n', rfl, _, hcl, hxl, hf⟩ := DataW.trod_struct Try.underlying42 ht
  have g0 := hf 0 _ rfl
  change DataW.trod enc Try.prog w base spare held n' 39 (List.take (Try.prog.cellsOf 39) [v0, v1, v2, v3, v4, v5]) = xs[0]? at g0
  rw [(show Try.prog.cellsOf 39 = 3 by kernel_rfl), List.getElem?_eq_getElem (by have : xs.length = 2 := hxl; omega)] at g0
  change DataW.trod enc Try.prog w base spare held n' 39 [v0, v1, v2] = _ at g0
  have g1 := hf 1 _ rfl
  change DataW.trod enc Try.prog w base spare held n' 39 (List.take (Try.prog.cellsOf 39) [v3, v4, v5]) = xs[1]? at g1
  rw [(show Try.prog.cellsOf 39 = 3 by kernel_rfl), List.getElem?_eq_getElem (by have : xs.length = 2 := hxl; omega)] at g1
  change DataW.trod enc Try.prog w base spare held n' 39 [v3, v4, v5] = _ at g1
  obtain ⟨x0, e0, in0⟩ := open_Vucells g0
  change @Eq (List Value) _ [.int .i64 x0.k, .int .i64 x0.n, .string x0.t] at e0
  simp only [List.cons.injEq, and_true] at e0
  obtain ⟨q0_0, q0_1, q0_2⟩ := e0
  subst q0_0 q0_1 q0_2
  obtain ⟨x1, e1, in1⟩ := open_Vucells g1
  change @Eq (List Value) _ [.int .i64 x1.k, .int .i64 x1.n, .string x1.t] at e1
  simp only [List.cons.injEq, and_true] at e1
  obtain ⟨q1_0, q1_1, q1_2⟩ := e1
  subst q1_0 q1_1 q1_2
  exact ⟨(⟨x0, x1⟩ : Pq), rfl, Pq.E_mk ⟨in0, in1⟩⟩
set_option maxRecDepth 100000 in
/-- An argument of the type laws.Pair. -/
theorem open_Pq {H : Type} {enc : TypeId × Value → H} {w : World} {r : Reach} {b0 base : Nat} {spare : Nat → Bool} {held : Bool} {v : Value} {x : DataW H} {ps : List MemPlace} (hv : Value.okWide Try.prog w r b0 42 v) (h : DataW.Trod enc Try.prog w base spare held 42 v x ps) :
    ∃ d : Pq, v = Pq.val d ∧ Pq.E.In w w.heap.size d := by
  have hC : Try.prog.cellsOf 42 = 6 := by kernel_rfl
  obtain ⟨cs, rfl, hsz⟩ := okWide_struct Try.underlying42 hv
  obtain ⟨fuel, ht⟩ := h
  obtain ⟨l⟩ := cs
  match l, hsz.trans hC with
  | [v0, v1, v2, v3, v4, v5], _ =>
    obtain ⟨d, e, hd⟩ := open_Pqcells ht
    refine ⟨d, ?_, hd⟩
    rw [e]; rfl
set_option maxRecDepth 100000 in
set_option maxHeartbeats 1000000 in
theorem open_Pqrow {H : Type} {enc : TypeId × Value → H} {w : World} {base : Nat} {spare : Nat → Bool} {held : Bool} {fuel : Nat} {cs : List Value} {x : DataW H × List MemPlace} (h : DataW.trod enc Try.prog w base spare held fuel 23 cs = some x) :
    ∃ (A : Option Addr) (c : Nat) (l : List Pq), cs = [.slice A l.length c] ∧ Pq.E.LIn w w.heap.size A c l := by
  have hC : Try.prog.cellsOf 42 = 6 := by kernel_rfl
  rcases DataW.trod_slice Try.underlying23 h with ⟨rfl, _⟩ | ⟨a, len, cap, elems, rest, n, rfl, rfl, _, _, hl, hm, hlen, hel, _⟩
  · exact ⟨none, 0, [], rfl, Elem.LIn.nil_ (by omega) (fun _ => rfl)⟩
  · have key : ∀ i, i < len → ∃ d : Pq, Pq.E.In w w.heap.size d ∧ ∀ j u, (Pq.E.cells d)[j]? = some u → w.cell? (a.add (i * 6 + j)) = some u := by
      intro i hi
      have hi' := hel i hi
      rw [List.getElem?_eq_getElem (by omega)] at hi'
      obtain ⟨cs', hcs, ht⟩ := Option.bind_eq_some_iff.1 hi'
      rw [hC] at hcs
      obtain ⟨_, hlen', hat⟩ := World.cells?_some hcs
      match cs', hlen' with
      | [v0, v1, v2, v3, v4, v5], _ =>
        obtain ⟨d, e, hd⟩ := open_Pqcells ht
        refine ⟨d, hd, fun j u hu => ?_⟩
        have hj : j < 6 := by have h := (List.getElem?_eq_some_iff.1 hu).1; rw [Pq.E.len] at h; exact h
        have b := hat j (by simpa using hj)
        rw [Go.Deep.add_add] at b
        rw [b, e]
        exact hu
    obtain ⟨l, hll, hp⟩ := list_of len key
    refine ⟨some a, cap, l, by rw [hll], ⟨by omega, by unfold maxLen at hm; omega⟩, by simp, fun hne => ?_, fun d hd => ?_⟩
    · have hpos : 0 < l.length := List.length_pos_iff.2 hne
      have h0 : w.cell? (a.add (0 * 6 + 0)) = some _ := (hp 0 _ (List.getElem?_eq_getElem hpos)).2 0 _ rfl
      have hsp : a.spot = none := by
        have := spot_of_cell h0
        simpa [Addr.add] using this
      refine ⟨a.block, a.off, by rw [← hsp], ?_, ?_⟩
      · have := World.block_lt_of_cell? w _ h0
        simpa [Addr.add] using this
      · intro j u hu
        have hj : j < 6 * l.length := by have h := (List.getElem?_eq_some_iff.1 hu).1; rw [Elem.cellsL_length] at h; exact h
        have hi : l[j / 6]? = some l[j / 6] := List.getElem?_eq_getElem (by omega)
        have g := Elem.cellsL_get (E := Pq.E) hi (j := j % 6) (show j % 6 < 6 by omega)
        have e4 : Pq.E.n = 6 := rfl
        rw [e4, show 6 * (j / 6) + j % 6 = j by omega, hu] at g
        have b := (hp _ _ hi).2 (j % 6) u g.symm
        rw [add_plain a hsp] at b
        rwa [show j / 6 * 6 + j % 6 = j by omega] at b
    · obtain ⟨i, hi⟩ := List.mem_iff_getElem?.1 hd
      exact (hp i d hi).1
set_option maxRecDepth 100000 in
/-- An argument of the type []laws.Pair. -/
theorem open_PqL {H : Type} {enc : TypeId × Value → H} {w : World} {r : Reach} {b0 base : Nat} {spare : Nat → Bool} {held : Bool} {v : Value} {x : DataW H} {ps : List MemPlace} (hv : Value.okWide Try.prog w r b0 23 v) (h : DataW.Trod enc Try.prog w base spare held 23 v x ps) :
    ∃ (A : Option Addr) (c : Nat) (l : List Pq), v = .slice A l.length c ∧ Pq.E.LIn w w.heap.size A c l := by
  obtain ⟨a0, len0, cap0, rfl⟩ := okWide_slice Try.underlying23 hv
  obtain ⟨fuel, hf⟩ := h
  obtain ⟨A, c, l, e, hl⟩ := open_Pqrow hf
  have e' : Value.slice a0 len0 cap0 = .slice A l.length c := by simpa [Value.cells] using e
  exact ⟨A, c, l, e', hl⟩
end Go.Proofs.Ytnldlbglgalbaab
