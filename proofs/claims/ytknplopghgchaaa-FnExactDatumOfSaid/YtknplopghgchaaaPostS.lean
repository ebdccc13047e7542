/-
  An argument of the type laws.Syntax, opened.
-/
import Derived.Test.YtknplopghgchaaaPostI
import Derived.Test.YtknplopghgchaaaSOwn
namespace Go.Proofs.Ytknplopghgchaaa
open Go.ChangeShapes Go.WideShapes Go.ChangeAt Go.RowKit

set_option maxRecDepth 100000 in
/-- What an argument of the type []laws.Syntax is: cells that read as syntax objects. -/
theorem open_scells {H : Type} {enc : TypeId × Value → H} {w : World} {base : Nat} {spare : Nat → Bool} {held : Bool} : ∀ (fuel : Nat) (cs : List Value) (x : DataW H × List MemPlace), DataW.trod enc Try.prog w base spare held fuel 56 cs = some x →
    ∃ (A : Option Addr) (c : Nat) (l : List S), cs = [.slice A l.length c] ∧ (S.mk 0 0 ⟨#[]⟩ none 0 [] A c l).In w w.heap.size := by
  have c3 : Try.prog.cellsOf 3 = 1 := by kernel_rfl
  have c9 : Try.prog.cellsOf 9 = 1 := by kernel_rfl
  have c33 : Try.prog.cellsOf 33 = 1 := by kernel_rfl
  have c40 : Try.prog.cellsOf 56 = 1 := by kernel_rfl
  intro fuel
  induction fuel using Nat.strongRecOn with
  | _ fuel ih =>
    intro cs x h
    rcases DataW.trod_slice Try.underlying56 h with ⟨rfl, _⟩ | ⟨a, len, cap, elems, rest, n, rfl, rfl, _, _, hl, hm, hlen, hel, _⟩
    · exact ⟨none, 0, [], rfl, ⟨Nat.le_refl _, Nat.zero_le _, Nat.zero_le _⟩, IIn.nil_ (by omega) (fun _ => rfl), fun h => absurd rfl h, trivial⟩
    · have key : ∀ i, i < len → ∃ d : S, d.In w w.heap.size ∧ w.cell? (a.add (i * 5)) = some (.int .i64 d.k) ∧ w.cell? (a.add (i * 5 + 1)) = some (.int .i64 d.n) ∧ w.cell? (a.add (i * 5 + 2)) = some (.string d.t) ∧ w.cell? (a.add (i * 5 + 3)) = some (.slice d.sa d.s.length d.sc) ∧ w.cell? (a.add (i * 5 + 4)) = some (.slice d.A d.l.length d.c) := by
        intro i hi
        have hi' := hel i hi
        rw [List.getElem?_eq_getElem (by omega)] at hi'
        obtain ⟨cs', hcs, ht⟩ := Option.bind_eq_some_iff.1 hi'
        have hC : Try.prog.cellsOf 58 = 5 := by kernel_rfl
        rw [hC] at hcs
        obtain ⟨xs, n', rfl, _, hcl, hxl, hf⟩ := DataW.trod_struct Try.underlying58 ht
        obtain ⟨_, hlen', hat⟩ := World.cells?_some hcs
        match cs', hlen' with
        | [v0, v1, v2, v3, v4], _ =>
          have g0 := hf 0 _ rfl
          have g1 := hf 1 _ rfl
          have g2 := hf 2 _ rfl
          have g3 := hf 3 _ rfl
          have g4 := hf 4 _ rfl
          have hxl' : xs.length = 5 := hxl
          change DataW.trod enc Try.prog w base spare held n' 3 (List.take (Try.prog.cellsOf 3) [v0, v1, v2, v3, v4]) = xs[0]? at g0
          change DataW.trod enc Try.prog w base spare held n' 3 (List.take (Try.prog.cellsOf 3) [v1, v2, v3, v4]) = xs[1]? at g1
          change DataW.trod enc Try.prog w base spare held n' 9 (List.take (Try.prog.cellsOf 9) [v2, v3, v4]) = xs[2]? at g2
          change DataW.trod enc Try.prog w base spare held n' 33 (List.take (Try.prog.cellsOf 33) [v3, v4]) = xs[3]? at g3
          change DataW.trod enc Try.prog w base spare held n' 56 (List.take (Try.prog.cellsOf 56) [v4]) = xs[4]? at g4
          rw [c3, List.getElem?_eq_getElem (by omega)] at g0 g1
          rw [c9, List.getElem?_eq_getElem (by omega)] at g2
          rw [c33, List.getElem?_eq_getElem (by omega)] at g3
          rw [c40, List.getElem?_eq_getElem (by omega)] at g4
          obtain ⟨k, e0, _⟩ := DataW.trod_int Try.underlying3 g0
          obtain ⟨nn, e1, _⟩ := DataW.trod_int Try.underlying3 g1
          obtain ⟨s, e2, _, hs⟩ := DataW.trod_string Try.underlying9 g2
          obtain ⟨sa, sc, ss, e3, his⟩ := open_introw g3
          obtain ⟨A, c, l, e4, hin⟩ := ih n' (by omega) _ _ g4
          simp at e0 e1 e2 e3 e4
          subst e0 e1 e2 e3 e4
          have b0 := hat 0 (by omega)
          have b1 := hat 1 (by omega)
          have b2 := hat 2 (by omega)
          have b3 := hat 3 (by omega)
          have b4 := hat 4 (by omega)
          rw [Go.Deep.add_add] at b0 b1 b2 b3 b4
          exact ⟨.mk k nn s sa sc ss A c l, ⟨⟨hin.1.1, hin.1.2.1, hs⟩, his, hin.2.2.1, hin.2.2.2⟩, b0, b1, b2, b3, b4⟩
      obtain ⟨l, hll, hp⟩ := list_of len key
      refine ⟨some a, cap, l, by rw [hll], ⟨by omega, hm, Nat.zero_le _⟩, IIn.nil_ (by omega) (fun _ => rfl), fun hne => ?_, S.InL_iff.2 fun d hd => ?_⟩
      · have hpos : 0 < l.length := List.length_pos_iff.2 hne
        have hsp : a.spot = none := by
          obtain ⟨_, h0, _⟩ := hp 0 _ (List.getElem?_eq_getElem hpos)
          have := spot_of_cell h0
          simpa [Addr.add] using this
        refine ⟨a.block, a.off, by rw [← hsp], ?_, ?_⟩
        · obtain ⟨_, h0, _⟩ := hp 0 _ (List.getElem?_eq_getElem hpos)
          have := World.block_lt_of_cell? w _ h0
          simpa [Addr.add] using this
        · refine fun j u hu => ?_
          have hj : j < 5 * l.length := by rw [← S.cellsL_length]; exact (List.getElem?_eq_some_iff.1 hu).1
          have hi : l[j / 5]? = some l[j / 5] := List.getElem?_eq_getElem (by omega)
          have g := S.cellsL_get (ds := l) hi (j % 5) (by omega)
          rw [show 5 * (j / 5) + j % 5 = j by omega, hu] at g
          obtain ⟨_, h0, h1, h2, h3, h4⟩ := hp _ _ hi
          rw [add_plain a hsp] at h0 h1 h2 h3 h4
          have e : j % 5 = 0 ∨ j % 5 = 1 ∨ j % 5 = 2 ∨ j % 5 = 3 ∨ j % 5 = 4 := by omega
          rcases e with e | e | e | e | e <;> rw [e] at g <;> simp [S.cells] at g <;> subst g
          · rwa [show j / 5 * 5 = j by omega] at h0
          · rwa [show j / 5 * 5 + 1 = j by omega] at h1
          · rwa [show j / 5 * 5 + 2 = j by omega] at h2
          · rwa [show j / 5 * 5 + 3 = j by omega] at h3
          · rwa [show j / 5 * 5 + 4 = j by omega] at h4
      · obtain ⟨i, hi⟩ := List.mem_iff_getElem?.1 hd
        exact (hp i d hi).1
set_option maxRecDepth 100000 in
/-- An argument of the type laws.Syntax. -/
theorem open_syn {H : Type} {enc : TypeId × Value → H} {w : World} {r : Reach} {b0 base : Nat} {spare : Nat → Bool} {held : Bool} {v : Value} {x : DataW H} {ps : List MemPlace} (hv : Value.okWide Try.prog w r b0 58 v) (h : DataW.Trod enc Try.prog w base spare held 58 v x ps) :
    ∃ d : S, v = d.val ∧ d.In w w.heap.size := by
  have c3 : Try.prog.cellsOf 3 = 1 := by kernel_rfl
  have c9 : Try.prog.cellsOf 9 = 1 := by kernel_rfl
  have c33 : Try.prog.cellsOf 33 = 1 := by kernel_rfl
  have c40 : Try.prog.cellsOf 56 = 1 := by kernel_rfl
  have hC : Try.prog.cellsOf 58 = 5 := by kernel_rfl
  obtain ⟨cs, rfl, hsz⟩ := okWide_struct Try.underlying58 hv
  obtain ⟨fuel, hf⟩ := h
  obtain ⟨l⟩ := cs
  match l, hsz.trans hC with
  | [v0, v1, v2, v3, v4], _ =>
    obtain ⟨xs, n', rfl, _, hcl, hxl, hf⟩ := DataW.trod_struct Try.underlying58 hf
    have g0 := hf 0 _ rfl
    have g1 := hf 1 _ rfl
    have g2 := hf 2 _ rfl
    have g3 := hf 3 _ rfl
    have g4 := hf 4 _ rfl
    have hxl' : xs.length = 5 := hxl
    change DataW.trod enc Try.prog w base spare held n' 3 (List.take (Try.prog.cellsOf 3) [v0, v1, v2, v3, v4]) = xs[0]? at g0
    change DataW.trod enc Try.prog w base spare held n' 3 (List.take (Try.prog.cellsOf 3) [v1, v2, v3, v4]) = xs[1]? at g1
    change DataW.trod enc Try.prog w base spare held n' 9 (List.take (Try.prog.cellsOf 9) [v2, v3, v4]) = xs[2]? at g2
    change DataW.trod enc Try.prog w base spare held n' 33 (List.take (Try.prog.cellsOf 33) [v3, v4]) = xs[3]? at g3
    change DataW.trod enc Try.prog w base spare held n' 56 (List.take (Try.prog.cellsOf 56) [v4]) = xs[4]? at g4
    rw [c3, List.getElem?_eq_getElem (by omega)] at g0 g1
    rw [c9, List.getElem?_eq_getElem (by omega)] at g2
    rw [c33, List.getElem?_eq_getElem (by omega)] at g3
    rw [c40, List.getElem?_eq_getElem (by omega)] at g4
    obtain ⟨k, e0, _⟩ := DataW.trod_int Try.underlying3 g0
    obtain ⟨nn, e1, _⟩ := DataW.trod_int Try.underlying3 g1
    obtain ⟨s, e2, _, hs⟩ := DataW.trod_string Try.underlying9 g2
    obtain ⟨sa, sc, ss, e3, his⟩ := open_introw g3
    obtain ⟨A, c, l, e4, hin⟩ := open_scells n' _ _ g4
    simp at e0 e1 e2 e3 e4
    subst e0 e1 e2 e3 e4
    exact ⟨.mk k nn s sa sc ss A c l, rfl, ⟨⟨hin.1.1, hin.1.2.1, hs⟩, his, hin.2.2.1, hin.2.2.2⟩⟩
end Go.Proofs.Ytknplopghgchaaa
