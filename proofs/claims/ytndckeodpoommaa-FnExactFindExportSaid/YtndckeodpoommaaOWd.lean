/-
  The cells of an expander that is a field of an argument, opened.
-/
import Derived.Test.YtndckeodpoommaaPostEx
import Derived.Test.YtndckeodpoommaaExR
import Derived.Test.YtndckeodpoommaaPosts
import Derived.Test.YtndckeodpoommaaKoOpen
import Derived.Test.YtndckeodpoommaaRXp
import Derived.Test.YtndckeodpoommaaRWd
import Derived.Test.YtndckeodpoommaaOUn
namespace Go.Proofs.Ytndckeodpoommaa
open Go.ChangeShapes Go.WideShapes Go.ChangeAt Go.RowKit

set_option maxRecDepth 100000 in
theorem open_Excells {H : Type} {enc : TypeId × Value → H} {w : World} {base : Nat} {spare : Nat → Bool} {held : Bool} {fuel : Nat} {v0 v1 v2 v3 v4 : Value} {x : DataW H × List MemPlace} (hf : DataW.trod enc Try.prog w base spare held fuel 40 [v0, v1, v2, v3, v4] = some x) :
    ∃ d : Ex, [v0, v1, v2, v3, v4] = Ex.E.cells d ∧ Ex.E.In w w.heap.size d := by
  have cI : Try.prog.cellsOf 3 = 1 := by kernel_rfl
  have cB : Try.prog.cellsOf 37 = 1 := by kernel_rfl
  have cR : Try.prog.cellsOf 38 = 1 := by kernel_rfl
  obtain ⟨xs, n', rfl, _, hcl, hxl, hf⟩ := DataW.trod_struct Try.underlying40 hf
  have g0 := hf 0 _ rfl
  have g1 := hf 1 _ rfl
  have g2 := hf 2 _ rfl
  have g3 := hf 3 _ rfl
  have g4 := hf 4 _ rfl
  have hxl' : xs.length = 5 := hxl
  change DataW.trod enc Try.prog w base spare held n' 37 (List.take (Try.prog.cellsOf 37) [v0, v1, v2, v3, v4]) = xs[0]? at g0
  change DataW.trod enc Try.prog w base spare held n' 38 (List.take (Try.prog.cellsOf 38) [v1, v2, v3, v4]) = xs[1]? at g1
  change DataW.trod enc Try.prog w base spare held n' 3 (List.take (Try.prog.cellsOf 3) [v2, v3, v4]) = xs[2]? at g2
  change DataW.trod enc Try.prog w base spare held n' 3 (List.take (Try.prog.cellsOf 3) [v3, v4]) = xs[3]? at g3
  change DataW.trod enc Try.prog w base spare held n' 3 (List.take (Try.prog.cellsOf 3) [v4]) = xs[4]? at g4
  rw [cB, List.getElem?_eq_getElem (by omega)] at g0
  rw [cR, List.getElem?_eq_getElem (by omega)] at g1
  rw [cI, List.getElem?_eq_getElem (by omega)] at g2 g3 g4
  obtain ⟨A0, c0, l0, e0, h0⟩ := open_brow _ g0
  obtain ⟨A1, c1, l1, e1, h1⟩ := open_rrow _ g1
  obtain ⟨s, e2, _⟩ := DataW.trod_int Try.underlying3 g2
  obtain ⟨vv, e3, _⟩ := DataW.trod_int Try.underlying3 g3
  obtain ⟨t, e4, _⟩ := DataW.trod_int Try.underlying3 g4
  simp at e0 e1 e2 e3 e4
  subst e0 e1 e2 e3 e4
  exact ⟨⟨A0, c0, l0, A1, c1, l1, s, vv, t⟩, rfl, h0, h1⟩
end Go.Proofs.Ytndckeodpoommaa

namespace Go.Proofs.Ytndckeodpoommaa
open Go.ChangeShapes Go.WideShapes Go.ChangeAt Go.RowKit

set_option maxRecDepth 100000 in
set_option maxHeartbeats 1000000 in
theorem open_Xpcells {H : Type} {enc : TypeId × Value → H} {w : World} {base : Nat} {spare : Nat → Bool} {held : Bool} {fuel : Nat} {v0 v1 v2 v3 : Value} {x : DataW H × List MemPlace} (ht : DataW.trod enc Try.prog w base spare held fuel 145 [v0, v1, v2, v3] = some x) :
    ∃ d : Xp, [v0, v1, v2, v3] = Xp.E.cells d ∧ Xp.E.In w w.heap.size d := by
  obtain ⟨xs, n', rfl, _, hcl, hxl, hf⟩ := DataW.trod_struct Try.underlying145 ht
  have g0 := hf 0 _ rfl
  change DataW.trod enc Try.prog w base spare held n' 9 (List.take (Try.prog.cellsOf 9) [v0, v1, v2, v3]) = xs[0]? at g0
  rw [(show Try.prog.cellsOf 9 = 1 by kernel_rfl), List.getElem?_eq_getElem (by have : xs.length = 4 := hxl; omega)] at g0
  change DataW.trod enc Try.prog w base spare held n' 9 [v0] = _ at g0
  have g1 := hf 1 _ rfl
  change DataW.trod enc Try.prog w base spare held n' 9 (List.take (Try.prog.cellsOf 9) [v1, v2, v3]) = xs[1]? at g1
  rw [(show Try.prog.cellsOf 9 = 1 by kernel_rfl), List.getElem?_eq_getElem (by have : xs.length = 4 := hxl; omega)] at g1
  change DataW.trod enc Try.prog w base spare held n' 9 [v1] = _ at g1
  have g2 := hf 2 _ rfl
  change DataW.trod enc Try.prog w base spare held n' 3 (List.take (Try.prog.cellsOf 3) [v2, v3]) = xs[2]? at g2
  rw [(show Try.prog.cellsOf 3 = 1 by kernel_rfl), List.getElem?_eq_getElem (by have : xs.length = 4 := hxl; omega)] at g2
  change DataW.trod enc Try.prog w base spare held n' 3 [v2] = _ at g2
  have g3 := hf 3 _ rfl
  change DataW.trod enc Try.prog w base spare held n' 3 (List.take (Try.prog.cellsOf 3) [v3]) = xs[3]? at g3
  rw [(show Try.prog.cellsOf 3 = 1 by kernel_rfl), List.getElem?_eq_getElem (by have : xs.length = 4 := hxl; omega)] at g3
  change DataW.trod enc Try.prog w base spare held n' 3 [v3] = _ at g3
  obtain ⟨x0, e0, _, in0⟩ := DataW.trod_string Try.underlying9 g0
  simp only [List.cons.injEq, and_true] at e0
  subst e0
  obtain ⟨x1, e1, _, in1⟩ := DataW.trod_string Try.underlying9 g1
  simp only [List.cons.injEq, and_true] at e1
  subst e1
  obtain ⟨x2, e2, _, wf2⟩ := DataW.trod_int Try.underlying3 g2
  simp only [List.cons.injEq, and_true] at e2
  subst e2
  obtain ⟨x3, e3, _, wf3⟩ := DataW.trod_int Try.underlying3 g3
  simp only [List.cons.injEq, and_true] at e3
  subst e3
  exact ⟨(⟨x0, x1, x2, x3⟩ : Xp), rfl, Xp.E_mk ⟨in0, in1⟩⟩
set_option maxRecDepth 100000 in
/-- An argument of the type laws.Export. -/
theorem open_Xp {H : Type} {enc : TypeId × Value → H} {w : World} {r : Reach} {b0 base : Nat} {spare : Nat → Bool} {held : Bool} {v : Value} {x : DataW H} {ps : List MemPlace} (hv : Value.okWide Try.prog w r b0 145 v) (h : DataW.Trod enc Try.prog w base spare held 145 v x ps) :
    ∃ d : Xp, v = Xp.val d ∧ Xp.E.In w w.heap.size d := by
  have hC : Try.prog.cellsOf 145 = 4 := by kernel_rfl
  obtain ⟨cs, rfl, hsz⟩ := okWide_struct Try.underlying145 hv
  obtain ⟨fuel, ht⟩ := h
  obtain ⟨l⟩ := cs
  match l, hsz.trans hC with
  | [v0, v1, v2, v3], _ =>
    obtain ⟨d, e, hd⟩ := open_Xpcells ht
    refine ⟨d, ?_, hd⟩
    rw [e]; rfl
set_option maxRecDepth 100000 in
set_option maxHeartbeats 1000000 in
theorem open_Xprow {H : Type} {enc : TypeId × Value → H} {w : World} {base : Nat} {spare : Nat → Bool} {held : Bool} {fuel : Nat} {cs : List Value} {x : DataW H × List MemPlace} (h : DataW.trod enc Try.prog w base spare held fuel 41 cs = some x) :
    ∃ (A : Option Addr) (c : Nat) (l : List Xp), cs = [.slice A l.length c] ∧ Xp.E.LIn w w.heap.size A c l := by
  have hC : Try.prog.cellsOf 145 = 4 := by kernel_rfl
  rcases DataW.trod_slice Try.underlying41 h with ⟨rfl, _⟩ | ⟨a, len, cap, elems, rest, n, rfl, rfl, _, _, hl, hm, hlen, hel, _⟩
  · exact ⟨none, 0, [], rfl, Elem.LIn.nil_ (by omega) (fun _ => rfl)⟩
  · have key : ∀ i, i < len → ∃ d : Xp, Xp.E.In w w.heap.size d ∧ ∀ j u, (Xp.E.cells d)[j]? = some u → w.cell? (a.add (i * 4 + j)) = some u := by
      intro i hi
      have hi' := hel i hi
      rw [List.getElem?_eq_getElem (by omega)] at hi'
      obtain ⟨cs', hcs, ht⟩ := Option.bind_eq_some_iff.1 hi'
      rw [hC] at hcs
      obtain ⟨_, hlen', hat⟩ := World.cells?_some hcs
      match cs', hlen' with
      | [v0, v1, v2, v3], _ =>
        obtain ⟨d, e, hd⟩ := open_Xpcells ht
        refine ⟨d, hd, fun j u hu => ?_⟩
        have hj : j < 4 := by have h := (List.getElem?_eq_some_iff.1 hu).1; rw [Xp.E.len] at h; exact h
        have b := hat j (by simpa using hj)
        rw [Go.Deep.add_add] at b
        rw [b, e]
        exact hu
    obtain ⟨l, hll, hp⟩ := list_of len key
    refine ⟨some a, cap, l, by rw [hll], ⟨by omega, by unfold maxLen at hm; omega⟩, by simp, fun hne => ?_, fun d hd => ?_⟩
    · have hpos : 0 < l.length := List.length_pos_iff.2 hne
      have h0 : w.cell? (a.add (0 * 4 + 0)) = some _ := (hp 0 _ (List.getElem?_eq_getElem hpos)).2 0 _ rfl
      have hsp : a.spot = none := by
        have := spot_of_cell h0
        simpa [Addr.add] using this
      refine ⟨a.block, a.off, by rw [← hsp], ?_, ?_⟩
      · have := World.block_lt_of_cell? w _ h0
        simpa [Addr.add] using this
      · intro j u hu
        have hj : j < 4 * l.length := by have h := (List.getElem?_eq_some_iff.1 hu).1; rw [Elem.cellsL_length] at h; exact h
        have hi : l[j / 4]? = some l[j / 4] := List.getElem?_eq_getElem (by omega)
        have g := Elem.cellsL_get (E := Xp.E) hi (j := j % 4) (show j % 4 < 4 by omega)
        have e4 : Xp.E.n = 4 := rfl
        rw [e4, show 4 * (j / 4) + j % 4 = j by omega, hu] at g
        have b := (hp _ _ hi).2 (j % 4) u g.symm
        rw [add_plain a hsp] at b
        rwa [show j / 4 * 4 + j % 4 = j by omega] at b
    · obtain ⟨i, hi⟩ := List.mem_iff_getElem?.1 hd
      exact (hp i d hi).1
set_option maxRecDepth 100000 in
/-- An argument of the type []laws.Export. -/
theorem open_XpL {H : Type} {enc : TypeId × Value → H} {w : World} {r : Reach} {b0 base : Nat} {spare : Nat → Bool} {held : Bool} {v : Value} {x : DataW H} {ps : List MemPlace} (hv : Value.okWide Try.prog w r b0 41 v) (h : DataW.Trod enc Try.prog w base spare held 41 v x ps) :
    ∃ (A : Option Addr) (c : Nat) (l : List Xp), v = .slice A l.length c ∧ Xp.E.LIn w w.heap.size A c l := by
  obtain ⟨a0, len0, cap0, rfl⟩ := okWide_slice Try.underlying41 hv
  obtain ⟨fuel, hf⟩ := h
  obtain ⟨A, c, l, e, hl⟩ := open_Xprow hf
  have e' : Value.slice a0 len0 cap0 = .slice A l.length c := by simpa [Value.cells] using e
  exact ⟨A, c, l, e', hl⟩
end Go.Proofs.Ytndckeodpoommaa

namespace Go.Proofs.Ytndckeodpoommaa
open Go.ChangeShapes Go.WideShapes Go.ChangeAt Go.RowKit

set_option maxRecDepth 100000 in
set_option maxHeartbeats 1000000 in
theorem open_Wdcells {H : Type} {enc : TypeId × Value → H} {w : World} {base : Nat} {spare : Nat → Bool} {held : Bool} {fuel : Nat} {v0 v1 v2 v3 v4 v5 v6 : Value} {x : DataW H × List MemPlace} (ht : DataW.trod enc Try.prog w base spare held fuel 43 [v0, v1, v2, v3, v4, v5, v6] = some x) :
    ∃ d : Wd, [v0, v1, v2, v3, v4, v5, v6] = Wd.E.cells d ∧ Wd.E.In w w.heap.size d := by
  obtain ⟨xs, n', rfl, _, hcl, hxl, hf⟩ := DataW.trod_struct Try.underlying43 ht
  have g0 := hf 0 _ rfl
  change DataW.trod enc Try.prog w base spare held n' 40 (List.take (Try.prog.cellsOf 40) [v0, v1, v2, v3, v4, v5, v6]) = xs[0]? at g0
  rw [(show Try.prog.cellsOf 40 = 5 by kernel_rfl), List.getElem?_eq_getElem (by have : xs.length = 3 := hxl; omega)] at g0
  change DataW.trod enc Try.prog w base spare held n' 40 [v0, v1, v2, v3, v4] = _ at g0
  have g1 := hf 1 _ rfl
  change DataW.trod enc Try.prog w base spare held n' 26 (List.take (Try.prog.cellsOf 26) [v5, v6]) = xs[1]? at g1
  rw [(show Try.prog.cellsOf 26 = 1 by kernel_rfl), List.getElem?_eq_getElem (by have : xs.length = 3 := hxl; omega)] at g1
  change DataW.trod enc Try.prog w base spare held n' 26 [v5] = _ at g1
  have g2 := hf 2 _ rfl
  change DataW.trod enc Try.prog w base spare held n' 41 (List.take (Try.prog.cellsOf 41) [v6]) = xs[2]? at g2
  rw [(show Try.prog.cellsOf 41 = 1 by kernel_rfl), List.getElem?_eq_getElem (by have : xs.length = 3 := hxl; omega)] at g2
  change DataW.trod enc Try.prog w base spare held n' 41 [v6] = _ at g2
  obtain ⟨x0, e0, in0⟩ := open_Excells g0
  change @Eq (List Value) _ [.slice x0.A0 x0.l0.length x0.c0, .slice x0.A1 x0.l1.length x0.c1, .int .i64 x0.s, .int .i64 x0.v, .int .i64 x0.t] at e0
  simp only [List.cons.injEq, and_true] at e0
  obtain ⟨q0_0, q0_1, q0_2, q0_3, q0_4⟩ := e0
  subst q0_0 q0_1 q0_2 q0_3 q0_4
  obtain ⟨xa1, xc1, x1, e1, in1⟩ := open_Unrow g1
  simp only [List.cons.injEq, and_true] at e1
  subst e1
  obtain ⟨xa2, xc2, x2, e2, in2⟩ := open_Xprow g2
  simp only [List.cons.injEq, and_true] at e2
  subst e2
  exact ⟨(⟨x0, xa1, xc1, x1, xa2, xc2, x2⟩ : Wd), rfl, Wd.E_mk ⟨in0, in1, in2⟩⟩
set_option maxRecDepth 100000 in
/-- An argument of the type laws.World. -/
theorem open_Wd {H : Type} {enc : TypeId × Value → H} {w : World} {r : Reach} {b0 base : Nat} {spare : Nat → Bool} {held : Bool} {v : Value} {x : DataW H} {ps : List MemPlace} (hv : Value.okWide Try.prog w r b0 43 v) (h : DataW.Trod enc Try.prog w base spare held 43 v x ps) :
    ∃ d : Wd, v = Wd.val d ∧ Wd.E.In w w.heap.size d := by
  have hC : Try.prog.cellsOf 43 = 7 := by kernel_rfl
  obtain ⟨cs, rfl, hsz⟩ := okWide_struct Try.underlying43 hv
  obtain ⟨fuel, ht⟩ := h
  obtain ⟨l⟩ := cs
  match l, hsz.trans hC with
  | [v0, v1, v2, v3, v4, v5, v6], _ =>
    obtain ⟨d, e, hd⟩ := open_Wdcells ht
    refine ⟨d, ?_, hd⟩
    rw [e]; rfl
end Go.Proofs.Ytndckeodpoommaa
