/-
  An argument of the type []int, opened: its numbers are ints.
-/
import Derived.Test.YtpigpncbjckbcaaGreatPosts
import Derived.Test.YtpigpncbjckbcaaGreatKoBase
namespace Go.Proofs.YtpigpncbjckbcaaGreat
open Go.ChangeShapes Go.WideShapes Go.ChangeAt Go.RowKit
set_option maxRecDepth 100000 in
theorem open_introwf {H : Type} {enc : TypeId × Value → H} {w : World} {base : Nat} {spare : Nat → Bool} {held : Bool} {fuel : Nat} {cs : List Value} {x : DataW H × List MemPlace} (h : DataW.trod enc Tryz.prog w base spare held fuel 22 cs = some x) :
    ∃ (A : Option Addr) (c : Nat) (l : List Int), cs = [.slice A l.length c] ∧ IIn w w.heap.size A c l ∧ ∀ i ∈ l, (Lit.int .i64 i).wf = true := by
  rcases Go.ChangeShapes.open_ints (k := .i64) Tryz.underlying22 Tryz.underlying3 (by kernel_rfl) h with ⟨rfl, _⟩ | ⟨a, len, cap, zs, rfl, _, hl, hm, hz, _, hc, hwf⟩
  · exact ⟨none, 0, [], rfl, IIn.nil_ (by omega) (fun _ => rfl), by simp⟩
  · have hzl : len ≤ zs.length := by rw [hz]; split <;> omega
    refine ⟨some a, cap, zs.take len, by rw [List.length_take, Nat.min_eq_left hzl], ⟨by rw [List.length_take, Nat.min_eq_left hzl]; exact ⟨hl, hm⟩, by simp, fun hne => ?_⟩, fun i hi => hwf i (List.mem_of_mem_take hi)⟩
    have hpos : 0 < len := by
      rcases Nat.eq_zero_or_pos len with h0 | h0
      · subst h0; simp at hne
      · exact h0
    have h0 := hc 0 (by omega)
    have hsp : a.spot = none := by
      have := spot_of_cell h0
      simpa [Addr.add] using this
    refine ⟨a.block, a.off, by rw [← hsp], ?_, fun j u hu => ?_⟩
    · have := World.block_lt_of_cell? w _ h0
      simpa [Addr.add] using this
    · rw [List.getElem?_take] at hu
      split at hu
      · rename_i hj
        have hj' : j < zs.length := by omega
        have hcj := hc j hj'
        rw [add_plain a hsp] at hcj
        rw [hcj]
        simp [hu]
      · cases hu
end Go.Proofs.YtpigpncbjckbcaaGreat
namespace Go.Proofs.YtpigpncbjckbcaaGreat
open Go.ChangeShapes Go.WideShapes Go.ChangeAt Go.RowKit
set_option maxRecDepth 100000 in
theorem open_Dcells {H : Type} {enc : TypeId × Value → H} {w : World} {base : Nat} {spare : Nat → Bool} {held : Bool} {fuel : Nat} {v0 v1 v2 v3 : Value} {x : DataW H × List MemPlace} (ht : DataW.trod enc Tryz.prog w base spare held fuel 25 [v0, v1, v2, v3] = some x) :
    ∃ d : D, [v0, v1, v2, v3] = d.cells ∧ d.In w w.heap.size := by
  have c3 : Tryz.prog.cellsOf 3 = 1 := by kernel_rfl
  have c9 : Tryz.prog.cellsOf 9 = 1 := by kernel_rfl
  have c40 : Tryz.prog.cellsOf 23 = 1 := by kernel_rfl
  obtain ⟨xs, n', rfl, _, hcl, hxl, hf⟩ := DataW.trod_struct Tryz.underlying25 ht
  have g0 := hf 0 _ rfl
  have g1 := hf 1 _ rfl
  have g2 := hf 2 _ rfl
  have g3 := hf 3 _ rfl
  have hxl' : xs.length = 4 := hxl
  change DataW.trod enc Tryz.prog w base spare held n' 3 (List.take (Tryz.prog.cellsOf 3) [v0, v1, v2, v3]) = xs[0]? at g0
  change DataW.trod enc Tryz.prog w base spare held n' 3 (List.take (Tryz.prog.cellsOf 3) [v1, v2, v3]) = xs[1]? at g1
  change DataW.trod enc Tryz.prog w base spare held n' 9 (List.take (Tryz.prog.cellsOf 9) [v2, v3]) = xs[2]? at g2
  change DataW.trod enc Tryz.prog w base spare held n' 23 (List.take (Tryz.prog.cellsOf 23) [v3]) = xs[3]? at g3
  rw [c3, List.getElem?_eq_getElem (by omega)] at g0 g1
  rw [c9, List.getElem?_eq_getElem (by omega)] at g2
  rw [c40, List.getElem?_eq_getElem (by omega)] at g3
  obtain ⟨k, e0, _⟩ := DataW.trod_int Tryz.underlying3 g0
  obtain ⟨nn, e1, _⟩ := DataW.trod_int Tryz.underlying3 g1
  obtain ⟨s, e2, _, hs⟩ := DataW.trod_string Tryz.underlying9 g2
  obtain ⟨A, c, l, e3, hin⟩ := open_cells n' _ _ g3
  simp at e0 e1 e2 e3
  subst e0 e1 e2 e3
  exact ⟨.mk k nn s A c l, rfl, ⟨⟨hin.1.1, hin.1.2.1, hs⟩, hin.2.1, hin.2.2⟩⟩
end Go.Proofs.YtpigpncbjckbcaaGreat
namespace Go.Proofs.YtpigpncbjckbcaaGreat
open Go.ChangeShapes Go.WideShapes Go.ChangeAt Go.RowKit
set_option maxRecDepth 100000 in
set_option maxHeartbeats 1000000 in
theorem open_Korow {H : Type} {enc : TypeId × Value → H} {w : World} {base : Nat} {spare : Nat → Bool} {held : Bool} : ∀ (fuel : Nat) (cs : List Value) (x : DataW H × List MemPlace), DataW.trod enc Tryz.prog w base spare held fuel 26 cs = some x →
    ∃ (A : Option Addr) (c : Nat) (l : List (Tr Ko)), cs = [.slice A l.length c] ∧ Ko.E.LIn w w.heap.size A c l := by
  intro fuel
  induction fuel using Nat.strongRecOn with
  | _ fuel ih =>
    intro cs x h
    have hC : Tryz.prog.cellsOf 28 = 8 := by kernel_rfl
    rcases DataW.trod_slice Tryz.underlying26 h with ⟨rfl, _⟩ | ⟨a, len, cap, elems, rest, n, rfl, rfl, _, _, hl, hm, hlen, hel, _⟩
    · exact ⟨none, 0, [], rfl, Elem.LIn.nil_ (by omega) (fun _ => rfl)⟩
    · have key : ∀ i, i < len → ∃ d : Tr Ko, Ko.E.In w w.heap.size d ∧ ∀ j u, (Ko.E.cells d)[j]? = some u → w.cell? (a.add (i * 8 + j)) = some u := by
        intro i hi
        have hi' := hel i hi
        rw [List.getElem?_eq_getElem (by omega)] at hi'
        obtain ⟨cs', hcs, ht⟩ := Option.bind_eq_some_iff.1 hi'
        rw [hC] at hcs
        obtain ⟨_, hlen', hat⟩ := World.cells?_some hcs
        match cs', hlen' with
        | [v0, v1, v2, v3, v4, v5, v6, v7], _ =>
          obtain ⟨xs, n', rfl, _, hcl, hxl, hf⟩ := DataW.trod_struct Tryz.underlying28 ht
          have g0 := hf 0 _ rfl
          change DataW.trod enc Tryz.prog w base spare held n' 3 (List.take (Tryz.prog.cellsOf 3) [v0, v1, v2, v3, v4, v5, v6, v7]) = xs[0]? at g0
          rw [(show Tryz.prog.cellsOf 3 = 1 by kernel_rfl), List.getElem?_eq_getElem (by have : xs.length = 5 := hxl; omega)] at g0
          change DataW.trod enc Tryz.prog w base spare held n' 3 [v0] = _ at g0
          have g1 := hf 1 _ rfl
          change DataW.trod enc Tryz.prog w base spare held n' 3 (List.take (Tryz.prog.cellsOf 3) [v1, v2, v3, v4, v5, v6, v7]) = xs[1]? at g1
          rw [(show Tryz.prog.cellsOf 3 = 1 by kernel_rfl), List.getElem?_eq_getElem (by have : xs.length = 5 := hxl; omega)] at g1
          change DataW.trod enc Tryz.prog w base spare held n' 3 [v1] = _ at g1
          have g2 := hf 2 _ rfl
          change DataW.trod enc Tryz.prog w base spare held n' 22 (List.take (Tryz.prog.cellsOf 22) [v2, v3, v4, v5, v6, v7]) = xs[2]? at g2
          rw [(show Tryz.prog.cellsOf 22 = 1 by kernel_rfl), List.getElem?_eq_getElem (by have : xs.length = 5 := hxl; omega)] at g2
          change DataW.trod enc Tryz.prog w base spare held n' 22 [v2] = _ at g2
          have g3 := hf 3 _ rfl
          change DataW.trod enc Tryz.prog w base spare held n' 25 (List.take (Tryz.prog.cellsOf 25) [v3, v4, v5, v6, v7]) = xs[3]? at g3
          rw [(show Tryz.prog.cellsOf 25 = 4 by kernel_rfl), List.getElem?_eq_getElem (by have : xs.length = 5 := hxl; omega)] at g3
          change DataW.trod enc Tryz.prog w base spare held n' 25 [v3, v4, v5, v6] = _ at g3
          have g4 := hf 4 _ rfl
          change DataW.trod enc Tryz.prog w base spare held n' 26 (List.take (Tryz.prog.cellsOf 26) [v7]) = xs[4]? at g4
          rw [(show Tryz.prog.cellsOf 26 = 1 by kernel_rfl), List.getElem?_eq_getElem (by have : xs.length = 5 := hxl; omega)] at g4
          change DataW.trod enc Tryz.prog w base spare held n' 26 [v7] = _ at g4
          obtain ⟨x0, e0, _, wf0⟩ := DataW.trod_int Tryz.underlying3 g0
          simp only [List.cons.injEq, and_true] at e0
          subst e0
          obtain ⟨x1, e1, _, wf1⟩ := DataW.trod_int Tryz.underlying3 g1
          simp only [List.cons.injEq, and_true] at e1
          subst e1
          obtain ⟨xa2, xc2, x2, e2, in2, wf2⟩ := open_introwf g2
          simp only [List.cons.injEq, and_true] at e2
          subst e2
          obtain ⟨x3, e3, in3⟩ := open_Dcells g3
          simp only [D.cells, List.cons.injEq, and_true] at e3
          obtain ⟨q3, q4, q5, q6⟩ := e3
          subst q3 q4 q5 q6
          obtain ⟨kA, kC, kL, e4, kin⟩ := ih n' (by omega) _ _ g4
          simp only [List.cons.injEq, and_true] at e4
          subst e4
          refine ⟨(Tr.mk (⟨x0, x1, xa2, xc2, x2, x3⟩ : Ko) kA kC kL), Ko.E_mk ⟨in2, in3, ⟨wf1, wf2⟩⟩ kin, fun j u hu => ?_⟩
          have hj : j < 8 := by have h := (List.getElem?_eq_some_iff.1 hu).1; rw [Ko.E.len] at h; exact h
          have b := hat j (by simpa using hj)
          rw [Go.Deep.add_add] at b
          rw [b]
          exact hu
      obtain ⟨l, hll, hp⟩ := list_of len key
      refine ⟨some a, cap, l, by rw [hll], ⟨by omega, by unfold maxLen at hm; omega⟩, by simp, fun hne => ?_, fun d hd => ?_⟩
      · have hpos : 0 < l.length := List.length_pos_iff.2 hne
        have h0 : w.cell? (a.add (0 * 8 + 0)) = some _ := (hp 0 _ (List.getElem?_eq_getElem hpos)).2 0 _ rfl
        have hsp : a.spot = none := by
          have := spot_of_cell h0
          simpa [Addr.add] using this
        refine ⟨a.block, a.off, by rw [← hsp], ?_, ?_⟩
        · have := World.block_lt_of_cell? w _ h0
          simpa [Addr.add] using this
        · intro j u hu
          have hj : j < 8 * l.length := by have h := (List.getElem?_eq_some_iff.1 hu).1; rw [Elem.cellsL_length] at h; exact h
          have hi : l[j / 8]? = some l[j / 8] := List.getElem?_eq_getElem (by omega)
          have g := Elem.cellsL_get (E := Ko.E) hi (j := j % 8) (show j % 8 < 8 by omega)
          have e4 : Ko.E.n = 8 := rfl
          rw [e4, show 8 * (j / 8) + j % 8 = j by omega, hu] at g
          have b := (hp _ _ hi).2 (j % 8) u g.symm
          rw [add_plain a hsp] at b
          rwa [show j / 8 * 8 + j % 8 = j by omega] at b
      · obtain ⟨i, hi⟩ := List.mem_iff_getElem?.1 hd
        exact (hp i d hi).1
set_option maxRecDepth 100000 in
set_option maxHeartbeats 1000000 in
theorem open_Ko {H : Type} {enc : TypeId × Value → H} {w : World} {r : Reach} {b0 base : Nat} {spare : Nat → Bool} {held : Bool} {v : Value} {x : DataW H} {ps : List MemPlace} (hv : Value.okWide Tryz.prog w r b0 28 v) (h : DataW.Trod enc Tryz.prog w base spare held 28 v x ps) :
    ∃ d : Tr Ko, v = Ko.val d ∧ Ko.E.In w w.heap.size d := by
  have hC : Tryz.prog.cellsOf 28 = 8 := by kernel_rfl
  obtain ⟨cs, rfl, hsz⟩ := okWide_struct Tryz.underlying28 hv
  obtain ⟨fuel, ht⟩ := h
  obtain ⟨l⟩ := cs
  match l, hsz.trans hC with
  | [v0, v1, v2, v3, v4, v5, v6, v7], _ =>
    obtain ⟨xs, n', rfl, _, hcl, hxl, hf⟩ := DataW.trod_struct Tryz.underlying28 ht
    have g0 := hf 0 _ rfl
    change DataW.trod enc Tryz.prog w base spare held n' 3 (List.take (Tryz.prog.cellsOf 3) [v0, v1, v2, v3, v4, v5, v6, v7]) = xs[0]? at g0
    rw [(show Tryz.prog.cellsOf 3 = 1 by kernel_rfl), List.getElem?_eq_getElem (by have : xs.length = 5 := hxl; omega)] at g0
    change DataW.trod enc Tryz.prog w base spare held n' 3 [v0] = _ at g0
    have g1 := hf 1 _ rfl
    change DataW.trod enc Tryz.prog w base spare held n' 3 (List.take (Tryz.prog.cellsOf 3) [v1, v2, v3, v4, v5, v6, v7]) = xs[1]? at g1
    rw [(show Tryz.prog.cellsOf 3 = 1 by kernel_rfl), List.getElem?_eq_getElem (by have : xs.length = 5 := hxl; omega)] at g1
    change DataW.trod enc Tryz.prog w base spare held n' 3 [v1] = _ at g1
    have g2 := hf 2 _ rfl
    change DataW.trod enc Tryz.prog w base spare held n' 22 (List.take (Tryz.prog.cellsOf 22) [v2, v3, v4, v5, v6, v7]) = xs[2]? at g2
    rw [(show Tryz.prog.cellsOf 22 = 1 by kernel_rfl), List.getElem?_eq_getElem (by have : xs.length = 5 := hxl; omega)] at g2
    change DataW.trod enc Tryz.prog w base spare held n' 22 [v2] = _ at g2
    have g3 := hf 3 _ rfl
    change DataW.trod enc Tryz.prog w base spare held n' 25 (List.take (Tryz.prog.cellsOf 25) [v3, v4, v5, v6, v7]) = xs[3]? at g3
    rw [(show Tryz.prog.cellsOf 25 = 4 by kernel_rfl), List.getElem?_eq_getElem (by have : xs.length = 5 := hxl; omega)] at g3
    change DataW.trod enc Tryz.prog w base spare held n' 25 [v3, v4, v5, v6] = _ at g3
    have g4 := hf 4 _ rfl
    change DataW.trod enc Tryz.prog w base spare held n' 26 (List.take (Tryz.prog.cellsOf 26) [v7]) = xs[4]? at g4
    rw [(show Tryz.prog.cellsOf 26 = 1 by kernel_rfl), List.getElem?_eq_getElem (by have : xs.length = 5 := hxl; omega)] at g4
    change DataW.trod enc Tryz.prog w base spare held n' 26 [v7] = _ at g4
    obtain ⟨x0, e0, _, wf0⟩ := DataW.trod_int Tryz.underlying3 g0
    simp only [List.cons.injEq, and_true] at e0
    subst e0
    obtain ⟨x1, e1, _, wf1⟩ := DataW.trod_int Tryz.underlying3 g1
    simp only [List.cons.injEq, and_true] at e1
    subst e1
    obtain ⟨xa2, xc2, x2, e2, in2, wf2⟩ := open_introwf g2
    simp only [List.cons.injEq, and_true] at e2
    subst e2
    obtain ⟨x3, e3, in3⟩ := open_Dcells g3
    simp only [D.cells, List.cons.injEq, and_true] at e3
    obtain ⟨q3, q4, q5, q6⟩ := e3
    subst q3 q4 q5 q6
    obtain ⟨kA, kC, kL, e4, kin⟩ := open_Korow n' _ _ g4
    simp only [List.cons.injEq, and_true] at e4
    subst e4
    exact ⟨(Tr.mk (⟨x0, x1, xa2, xc2, x2, x3⟩ : Ko) kA kC kL), rfl, Ko.E_mk ⟨in2, in3, ⟨wf1, wf2⟩⟩ kin⟩
end Go.Proofs.YtpigpncbjckbcaaGreat
