/-
  Arguments of the type laws.Instr, opened (written by gen/rec.py).
-/
import Derived.Test.YtpigpncbjckbcaaPosts
import Derived.Test.YtpigpncbjckbcaaKoOpen
import Derived.Test.YtpigpncbjckbcaaRNt
import Derived.Test.YtpigpncbjckbcaaRCd
import Derived.Test.YtpigpncbjckbcaaRIm
namespace Go.Proofs.Ytpigpncbjckbcaa
open Go.ChangeShapes Go.WideShapes Go.ChangeAt Go.RowKit

set_option maxRecDepth 100000 in
set_option maxHeartbeats 1000000 in
theorem open_Ntcells {H : Type} {enc : TypeId × Value → H} {w : World} {base : Nat} {spare : Nat → Bool} {held : Bool} {fuel : Nat} {v0 v1 v2 v3 v4 v5 : Value} {x : DataW H × List MemPlace} (ht : DataW.trod enc Try.prog w base spare held fuel 100 [v0, v1, v2, v3, v4, v5] = some x) :
    ∃ d : Nt, [v0, v1, v2, v3, v4, v5] = Nt.E.cells d ∧ Nt.E.In w w.heap.size d := by
  obtain ⟨xs, n', rfl, _, hcl, hxl, hf⟩ := DataW.trod_struct Try.underlying100 ht
  have g0 := hf 0 _ rfl
  change DataW.trod enc Try.prog w base spare held n' 3 (List.take (Try.prog.cellsOf 3) [v0, v1, v2, v3, v4, v5]) = xs[0]? at g0
  rw [(show Try.prog.cellsOf 3 = 1 by kernel_rfl), List.getElem?_eq_getElem (by have : xs.length = 3 := hxl; omega)] at g0
  change DataW.trod enc Try.prog w base spare held n' 3 [v0] = _ at g0
  have g1 := hf 1 _ rfl
  change DataW.trod enc Try.prog w base spare held n' 3 (List.take (Try.prog.cellsOf 3) [v1, v2, v3, v4, v5]) = xs[1]? at g1
  rw [(show Try.prog.cellsOf 3 = 1 by kernel_rfl), List.getElem?_eq_getElem (by have : xs.length = 3 := hxl; omega)] at g1
  change DataW.trod enc Try.prog w base spare held n' 3 [v1] = _ at g1
  have g2 := hf 2 _ rfl
  change DataW.trod enc Try.prog w base spare held n' 98 (List.take (Try.prog.cellsOf 98) [v2, v3, v4, v5]) = xs[2]? at g2
  rw [(show Try.prog.cellsOf 98 = 4 by kernel_rfl), List.getElem?_eq_getElem (by have : xs.length = 3 := hxl; omega)] at g2
  change DataW.trod enc Try.prog w base spare held n' 98 [v2, v3, v4, v5] = _ at g2
  obtain ⟨x0, e0, _, wf0⟩ := DataW.trod_int Try.underlying3 g0
  simp only [List.cons.injEq, and_true] at e0
  subst e0
  obtain ⟨x1, e1, _, wf1⟩ := DataW.trod_int Try.underlying3 g1
  simp only [List.cons.injEq, and_true] at e1
  subst e1
  obtain ⟨x2, e2, in2⟩ := open_Dcells g2
  change @Eq (List Value) _ [.int .i64 x2.k, .int .i64 x2.n, .string x2.t, .slice x2.A x2.l.length x2.c] at e2
  simp only [List.cons.injEq, and_true] at e2
  obtain ⟨q2_0, q2_1, q2_2, q2_3⟩ := e2
  subst q2_0 q2_1 q2_2 q2_3
  exact ⟨(⟨x0, x1, x2⟩ : Nt), rfl, Nt.E_mk ⟨in2⟩⟩
set_option maxRecDepth 100000 in
/-- An argument of the type laws.Instr. -/
theorem open_Nt {H : Type} {enc : TypeId × Value → H} {w : World} {r : Reach} {b0 base : Nat} {spare : Nat → Bool} {held : Bool} {v : Value} {x : DataW H} {ps : List MemPlace} (hv : Value.okWide Try.prog w r b0 100 v) (h : DataW.Trod enc Try.prog w base spare held 100 v x ps) :
    ∃ d : Nt, v = Nt.val d ∧ Nt.E.In w w.heap.size d := by
  have hC : Try.prog.cellsOf 100 = 6 := by kernel_rfl
  obtain ⟨cs, rfl, hsz⟩ := okWide_struct Try.underlying100 hv
  obtain ⟨fuel, ht⟩ := h
  obtain ⟨l⟩ := cs
  match l, hsz.trans hC with
  | [v0, v1, v2, v3, v4, v5], _ =>
    obtain ⟨d, e, hd⟩ := open_Ntcells ht
    refine ⟨d, ?_, hd⟩
    rw [e]; rfl
set_option maxRecDepth 100000 in
set_option maxHeartbeats 1000000 in
theorem open_Ntrow {H : Type} {enc : TypeId × Value → H} {w : World} {base : Nat} {spare : Nat → Bool} {held : Bool} {fuel : Nat} {cs : List Value} {x : DataW H × List MemPlace} (h : DataW.trod enc Try.prog w base spare held fuel 67 cs = some x) :
    ∃ (A : Option Addr) (c : Nat) (l : List Nt), cs = [.slice A l.length c] ∧ Nt.E.LIn w w.heap.size A c l := by
  have hC : Try.prog.cellsOf 100 = 6 := by kernel_rfl
  rcases DataW.trod_slice Try.underlying67 h with ⟨rfl, _⟩ | ⟨a, len, cap, elems, rest, n, rfl, rfl, _, _, hl, hm, hlen, hel, _⟩
  · exact ⟨none, 0, [], rfl, Elem.LIn.nil_ (by omega) (fun _ => rfl)⟩
  · have key : ∀ i, i < len → ∃ d : Nt, Nt.E.In w w.heap.size d ∧ ∀ j u, (Nt.E.cells d)[j]? = some u → w.cell? (a.add (i * 6 + j)) = some u := by
      intro i hi
      have hi' := hel i hi
      rw [List.getElem?_eq_getElem (by omega)] at hi'
      obtain ⟨cs', hcs, ht⟩ := Option.bind_eq_some_iff.1 hi'
      rw [hC] at hcs
      obtain ⟨_, hlen', hat⟩ := World.cells?_some hcs
      match cs', hlen' with
      | [v0, v1, v2, v3, v4, v5], _ =>
        obtain ⟨d, e, hd⟩ := open_Ntcells ht
        refine ⟨d, hd, fun j u hu => ?_⟩
        have hj : j < 6 := by have h := (List.getElem?_eq_some_iff.1 hu).1; rw [Nt.E.len] at h; exact h
        have b := hat j (by simpa using hj)
        rw [Go.Deep.add_add] at b
        rw [b, e]
        exact hu
    obtain ⟨l, hll, hp⟩ := list_of len key
    refine ⟨some a, cap, l, by rw [hll], ⟨by omega, by unfold maxLen at hm; omega⟩, by simp, fun hne => ?_, fun d hd => ?_⟩
    · have hpos : 0 < l.length := List.length_pos_iff.2 hne
      have h0 : w.cell? (a.add (0 * 6 + 0)) = some _ := (hp 0 _ (List.getElem?_eq_getElem hpos)).2 0 _ rfl
      have hsp : a.spot = none := by
        have := spot_of_cell h0
        simpa [Addr.add] using this
      refine ⟨a.block, a.off, by rw [← hsp], ?_, ?_⟩
      · have := World.block_lt_of_cell? w _ h0
        simpa [Addr.add] using this
      · intro j u hu
        have hj : j < 6 * l.length := by have h := (List.getElem?_eq_some_iff.1 hu).1; rw [Elem.cellsL_length] at h; exact h
        have hi : l[j / 6]? = some l[j / 6] := List.getElem?_eq_getElem (by omega)
        have g := Elem.cellsL_get (E := Nt.E) hi (j := j % 6) (show j % 6 < 6 by omega)
        have e4 : Nt.E.n = 6 := rfl
        rw [e4, show 6 * (j / 6) + j % 6 = j by omega, hu] at g
        have b := (hp _ _ hi).2 (j % 6) u g.symm
        rw [add_plain a hsp] at b
        rwa [show j / 6 * 6 + j % 6 = j by omega] at b
    · obtain ⟨i, hi⟩ := List.mem_iff_getElem?.1 hd
      exact (hp i d hi).1
set_option maxRecDepth 100000 in
/-- An argument of the type []laws.Instr. -/
theorem open_NtL {H : Type} {enc : TypeId × Value → H} {w : World} {r : Reach} {b0 base : Nat} {spare : Nat → Bool} {held : Bool} {v : Value} {x : DataW H} {ps : List MemPlace} (hv : Value.okWide Try.prog w r b0 67 v) (h : DataW.Trod enc Try.prog w base spare held 67 v x ps) :
    ∃ (A : Option Addr) (c : Nat) (l : List Nt), v = .slice A l.length c ∧ Nt.E.LIn w w.heap.size A c l := by
  obtain ⟨a0, len0, cap0, rfl⟩ := okWide_slice Try.underlying67 hv
  obtain ⟨fuel, hf⟩ := h
  obtain ⟨A, c, l, e, hl⟩ := open_Ntrow hf
  have e' : Value.slice a0 len0 cap0 = .slice A l.length c := by simpa [Value.cells] using e
  exact ⟨A, c, l, e', hl⟩
end Go.Proofs.Ytpigpncbjckbcaa

namespace Go.Proofs.Ytpigpncbjckbcaa
open Go.ChangeShapes Go.WideShapes Go.ChangeAt Go.RowKit

set_option maxRecDepth 100000 in
set_option maxHeartbeats 1000000 in
theorem open_Cdcells {H : Type} {enc : TypeId × Value → H} {w : World} {base : Nat} {spare : Nat → Bool} {held : Bool} {fuel : Nat} {v0 v1 v2 v3 : Value} {x : DataW H × List MemPlace} (ht : DataW.trod enc Try.prog w base spare held fuel 69 [v0, v1, v2, v3] = some x) :
    ∃ d : Cd, [v0, v1, v2, v3] = Cd.E.cells d ∧ Cd.E.In w w.heap.size d := by
  obtain ⟨xs, n', rfl, _, hcl, hxl, hf⟩ := DataW.trod_struct Try.underlying69 ht
  have g0 := hf 0 _ rfl
  change DataW.trod enc Try.prog w base spare held n' 3 (List.take (Try.prog.cellsOf 3) [v0, v1, v2, v3]) = xs[0]? at g0
  rw [(show Try.prog.cellsOf 3 = 1 by kernel_rfl), List.getElem?_eq_getElem (by have : xs.length = 4 := hxl; omega)] at g0
  change DataW.trod enc Try.prog w base spare held n' 3 [v0] = _ at g0
  have g1 := hf 1 _ rfl
  change DataW.trod enc Try.prog w base spare held n' 3 (List.take (Try.prog.cellsOf 3) [v1, v2, v3]) = xs[1]? at g1
  rw [(show Try.prog.cellsOf 3 = 1 by kernel_rfl), List.getElem?_eq_getElem (by have : xs.length = 4 := hxl; omega)] at g1
  change DataW.trod enc Try.prog w base spare held n' 3 [v1] = _ at g1
  have g2 := hf 2 _ rfl
  change DataW.trod enc Try.prog w base spare held n' 3 (List.take (Try.prog.cellsOf 3) [v2, v3]) = xs[2]? at g2
  rw [(show Try.prog.cellsOf 3 = 1 by kernel_rfl), List.getElem?_eq_getElem (by have : xs.length = 4 := hxl; omega)] at g2
  change DataW.trod enc Try.prog w base spare held n' 3 [v2] = _ at g2
  have g3 := hf 3 _ rfl
  change DataW.trod enc Try.prog w base spare held n' 67 (List.take (Try.prog.cellsOf 67) [v3]) = xs[3]? at g3
  rw [(show Try.prog.cellsOf 67 = 1 by kernel_rfl), List.getElem?_eq_getElem (by have : xs.length = 4 := hxl; omega)] at g3
  change DataW.trod enc Try.prog w base spare held n' 67 [v3] = _ at g3
  obtain ⟨x0, e0, _, wf0⟩ := DataW.trod_int Try.underlying3 g0
  simp only [List.cons.injEq, and_true] at e0
  subst e0
  obtain ⟨x1, e1, _, wf1⟩ := DataW.trod_int Try.underlying3 g1
  simp only [List.cons.injEq, and_true] at e1
  subst e1
  obtain ⟨x2, e2, _, wf2⟩ := DataW.trod_int Try.underlying3 g2
  simp only [List.cons.injEq, and_true] at e2
  subst e2
  obtain ⟨xa3, xc3, x3, e3, in3⟩ := open_Ntrow g3
  simp only [List.cons.injEq, and_true] at e3
  subst e3
  exact ⟨(⟨x0, x1, x2, xa3, xc3, x3⟩ : Cd), rfl, Cd.E_mk ⟨in3⟩⟩
set_option maxRecDepth 100000 in
/-- An argument of the type laws.Code. -/
theorem open_Cd {H : Type} {enc : TypeId × Value → H} {w : World} {r : Reach} {b0 base : Nat} {spare : Nat → Bool} {held : Bool} {v : Value} {x : DataW H} {ps : List MemPlace} (hv : Value.okWide Try.prog w r b0 69 v) (h : DataW.Trod enc Try.prog w base spare held 69 v x ps) :
    ∃ d : Cd, v = Cd.val d ∧ Cd.E.In w w.heap.size d := by
  have hC : Try.prog.cellsOf 69 = 4 := by kernel_rfl
  obtain ⟨cs, rfl, hsz⟩ := okWide_struct Try.underlying69 hv
  obtain ⟨fuel, ht⟩ := h
  obtain ⟨l⟩ := cs
  match l, hsz.trans hC with
  | [v0, v1, v2, v3], _ =>
    obtain ⟨d, e, hd⟩ := open_Cdcells ht
    refine ⟨d, ?_, hd⟩
    rw [e]; rfl
set_option maxRecDepth 100000 in
set_option maxHeartbeats 1000000 in
theorem open_Cdrow {H : Type} {enc : TypeId × Value → H} {w : World} {base : Nat} {spare : Nat → Bool} {held : Bool} {fuel : Nat} {cs : List Value} {x : DataW H × List MemPlace} (h : DataW.trod enc Try.prog w base spare held fuel 24 cs = some x) :
    ∃ (A : Option Addr) (c : Nat) (l : List Cd), cs = [.slice A l.length c] ∧ Cd.E.LIn w w.heap.size A c l := by
  have hC : Try.prog.cellsOf 69 = 4 := by kernel_rfl
  rcases DataW.trod_slice Try.underlying24 h with ⟨rfl, _⟩ | ⟨a, len, cap, elems, rest, n, rfl, rfl, _, _, hl, hm, hlen, hel, _⟩
  · exact ⟨none, 0, [], rfl, Elem.LIn.nil_ (by omega) (fun _ => rfl)⟩
  · have key : ∀ i, i < len → ∃ d : Cd, Cd.E.In w w.heap.size d ∧ ∀ j u, (Cd.E.cells d)[j]? = some u → w.cell? (a.add (i * 4 + j)) = some u := by
      intro i hi
      have hi' := hel i hi
      rw [List.getElem?_eq_getElem (by omega)] at hi'
      obtain ⟨cs', hcs, ht⟩ := Option.bind_eq_some_iff.1 hi'
      rw [hC] at hcs
      obtain ⟨_, hlen', hat⟩ := World.cells?_some hcs
      match cs', hlen' with
      | [v0, v1, v2, v3], _ =>
        obtain ⟨d, e, hd⟩ := open_Cdcells ht
        refine ⟨d, hd, fun j u hu => ?_⟩
        have hj : j < 4 := by have h := (List.getElem?_eq_some_iff.1 hu).1; rw [Cd.E.len] at h; exact h
        have b := hat j (by simpa using hj)
        rw [Go.Deep.add_add] at b
        rw [b, e]
        exact hu
    obtain ⟨l, hll, hp⟩ := list_of len key
    refine ⟨some a, cap, l, by rw [hll], ⟨by omega, by unfold maxLen at hm; omega⟩, by simp, fun hne => ?_, fun d hd => ?_⟩
    · have hpos : 0 < l.length := List.length_pos_iff.2 hne
      have h0 : w.cell? (a.add (0 * 4 + 0)) = some _ := (hp 0 _ (List.getElem?_eq_getElem hpos)).2 0 _ rfl
      have hsp : a.spot = none := by
        have := spot_of_cell h0
        simpa [Addr.add] using this
      refine ⟨a.block, a.off, by rw [← hsp], ?_, ?_⟩
      · have := World.block_lt_of_cell? w _ h0
        simpa [Addr.add] using this
      · intro j u hu
        have hj : j < 4 * l.length := by have h := (List.getElem?_eq_some_iff.1 hu).1; rw [Elem.cellsL_length] at h; exact h
        have hi : l[j / 4]? = some l[j / 4] := List.getElem?_eq_getElem (by omega)
        have g := Elem.cellsL_get (E := Cd.E) hi (j := j % 4) (show j % 4 < 4 by omega)
        have e4 : Cd.E.n = 4 := rfl
        rw [e4, show 4 * (j / 4) + j % 4 = j by omega, hu] at g
        have b := (hp _ _ hi).2 (j % 4) u g.symm
        rw [add_plain a hsp] at b
        rwa [show j / 4 * 4 + j % 4 = j by omega] at b
    · obtain ⟨i, hi⟩ := List.mem_iff_getElem?.1 hd
      exact (hp i d hi).1
set_option maxRecDepth 100000 in
/-- An argument of the type []laws.Code. -/
theorem open_CdL {H : Type} {enc : TypeId × Value → H} {w : World} {r : Reach} {b0 base : Nat} {spare : Nat → Bool} {held : Bool} {v : Value} {x : DataW H} {ps : List MemPlace} (hv : Value.okWide Try.prog w r b0 24 v) (h : DataW.Trod enc Try.prog w base spare held 24 v x ps) :
    ∃ (A : Option Addr) (c : Nat) (l : List Cd), v = .slice A l.length c ∧ Cd.E.LIn w w.heap.size A c l := by
  obtain ⟨a0, len0, cap0, rfl⟩ := okWide_slice Try.underlying24 hv
  obtain ⟨fuel, hf⟩ := h
  obtain ⟨A, c, l, e, hl⟩ := open_Cdrow hf
  have e' : Value.slice a0 len0 cap0 = .slice A l.length c := by simpa [Value.cells] using e
  exact ⟨A, c, l, e', hl⟩
end Go.Proofs.Ytpigpncbjckbcaa

namespace Go.Proofs.Ytpigpncbjckbcaa
open Go.ChangeShapes Go.WideShapes Go.ChangeAt Go.RowKit

set_option maxRecDepth 100000 in
set_option maxHeartbeats 1000000 in
theorem open_Imcells {H : Type} {enc : TypeId × Value → H} {w : World} {base : Nat} {spare : Nat → Bool} {held : Bool} {fuel : Nat} {v0 v1 : Value} {x : DataW H × List MemPlace} (ht : DataW.trod enc Try.prog w base spare held fuel 26 [v0, v1] = some x) :
    ∃ d : Im, [v0, v1] = Im.E.cells d ∧ Im.E.In w w.heap.size d := by
  obtain ⟨xs, n', rfl, _, hcl, hxl, hf⟩ := DataW.trod_struct Try.underlying26 ht
  have g0 := hf 0 _ rfl
  change DataW.trod enc Try.prog w base spare held n' 24 (List.take (Try.prog.cellsOf 24) [v0, v1]) = xs[0]? at g0
  rw [(show Try.prog.cellsOf 24 = 1 by kernel_rfl), List.getElem?_eq_getElem (by have : xs.length = 2 := hxl; omega)] at g0
  change DataW.trod enc Try.prog w base spare held n' 24 [v0] = _ at g0
  have g1 := hf 1 _ rfl
  change DataW.trod enc Try.prog w base spare held n' 3 (List.take (Try.prog.cellsOf 3) [v1]) = xs[1]? at g1
  rw [(show Try.prog.cellsOf 3 = 1 by kernel_rfl), List.getElem?_eq_getElem (by have : xs.length = 2 := hxl; omega)] at g1
  change DataW.trod enc Try.prog w base spare held n' 3 [v1] = _ at g1
  obtain ⟨xa0, xc0, x0, e0, in0⟩ := open_Cdrow g0
  simp only [List.cons.injEq, and_true] at e0
  subst e0
  obtain ⟨x1, e1, _, wf1⟩ := DataW.trod_int Try.underlying3 g1
  simp only [List.cons.injEq, and_true] at e1
  subst e1
  exact ⟨(⟨xa0, xc0, x0, x1⟩ : Im), rfl, Im.E_mk ⟨in0⟩⟩
set_option maxRecDepth 100000 in
/-- An argument of the type laws.Image. -/
theorem open_Im {H : Type} {enc : TypeId × Value → H} {w : World} {r : Reach} {b0 base : Nat} {spare : Nat → Bool} {held : Bool} {v : Value} {x : DataW H} {ps : List MemPlace} (hv : Value.okWide Try.prog w r b0 26 v) (h : DataW.Trod enc Try.prog w base spare held 26 v x ps) :
    ∃ d : Im, v = Im.val d ∧ Im.E.In w w.heap.size d := by
  have hC : Try.prog.cellsOf 26 = 2 := by kernel_rfl
  obtain ⟨cs, rfl, hsz⟩ := okWide_struct Try.underlying26 hv
  obtain ⟨fuel, ht⟩ := h
  obtain ⟨l⟩ := cs
  match l, hsz.trans hC with
  | [v0, v1], _ =>
    obtain ⟨d, e, hd⟩ := open_Imcells ht
    refine ⟨d, ?_, hd⟩
    rw [e]; rfl
end Go.Proofs.Ytpigpncbjckbcaa
