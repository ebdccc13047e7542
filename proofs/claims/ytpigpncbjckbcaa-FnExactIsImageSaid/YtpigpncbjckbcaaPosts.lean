/-
  The last step of a law's row: all below the heap's old size reads as it did; the answer is true.
-/
import Derived.Test.YtpigpncbjckbcaaRows
import Derived.Test.YtpigpncbjckbcaaBase
import Derived.ProofKit
import Derived.Carry
import Derived.Test.YtpigpncbjckbcaaInts
import Derived.ChangeSlices
import Derived.Test.YtpigpncbjckbcaaSBase
namespace Go.Proofs.Ytpigpncbjckbcaa
open Go.ChangeShapes Go.WideShapes Go.ChangeAt Go.RowKit

theorem Try.own : ownKnob Try.prog.godebug = none := by kernel_rfl
theorem Try.laidOut : laidOutB Try.prog = true := by kernel_rfl

section
variable {H : Type} {enc : TypeId × Value → H} {P : Program}
theorem post_of_below {f : Func} {s : ChangeSpec} {apart fresh handsOn again : Bool} {W W' : World} {args : Array Value} {v : Value} {ds gs : List (DataW H)} {before pa pv : List MemPlace}
    (hW : DataW.Whole enc P f.params.toList s.vars apart W args.toList ds gs before)
    (hres : ∀ (b : Nat) (sp : Nat → Bool) (hd : Bool), DataW.TrodAll enc P W' b sp hd f.resultTypes.toList (v.resultList f.resultTypes.size) (s.fn H (ds ++ gs)).results [])
    (hargs : ∀ sp : Nat → Bool, (∀ p ∈ before, sp p.block = true) → DataW.TrodAll enc P W' 0 sp true f.params.toList args.toList (s.fn H (ds ++ gs)).args pa)
    (hvars : ∀ sp : Nat → Bool, (∀ p ∈ before, sp p.block = true) → DataW.TrodVars enc P W' sp s.vars (s.fn H (ds ++ gs)).vars pv)
    (hps : before = pa ++ pv) (hb : Below W.heap.size W W')
    (hok : ∀ (j : Nat) (t : TypeId) (r : Value), f.resultTypes[j]? = some t → (v.resultList f.resultTypes.size)[j]? = some r → Value.okWide P W' .any 0 t r) :
    s.post enc P f apart fresh handsOn again W args v W' := by
  have hlt : ∀ p ∈ before, p.block < W.heap.size := fun p hp => hW.lt p hp
  have hold : ∀ p ∈ before, (fun b => decide (b < W.heap.size)) p.block = true := fun p hp => by simpa using hlt p hp
  refine ⟨ds, gs, before, [], pa, pv, hW, hres _ _ _, hargs _ hold, hvars _ hold, World.keptBut_mono (fun p hp => ⟨hp, ?_⟩) (hb.frame (· ∈ before)), fun _ => ?_⟩
  · rw [hps, List.mem_append] at hp
    exact Or.inr hp
  · obtain ⟨_, _, _, _, _, hz, hn⟩ := hW
    refine ⟨hok, _, _, ([] ++ pa) ++ pv, ⟨[] ++ pa, pv, trodAll_append (hargs _ (fun _ _ => rfl)) (hres _ _ _), hvars _ (fun _ _ => rfl), rfl, ?_, ?_⟩, ?_⟩
    · intro b off hp
      have hin : MemPlace.cell b off ∈ before := by rw [hps]; simpa using hp
      rw [hb.frozen (hlt _ hin)]
      exact hz b off hin
    · intro ha
      have := hn ha
      rw [hps] at this
      simpa using this
    · intro p hp _
      rw [hps]
      simpa using hp
end

theorem list_of {α : Type} {p : Nat → α → Prop} : ∀ n, (∀ i, i < n → ∃ x, p i x) → ∃ l : List α, l.length = n ∧ ∀ i x, l[i]? = some x → p i x := by
  intro n
  induction n with
  | zero => intro _; exact ⟨[], rfl, by simp⟩
  | succ n ih =>
    intro h
    obtain ⟨l, hl, hp⟩ := ih fun i hi => h i (by omega)
    obtain ⟨x, hx⟩ := h n (by omega)
    refine ⟨l ++ [x], by simp [hl], fun i y hy => ?_⟩
    by_cases hi : i < n
    · rw [List.getElem?_append_left (by omega)] at hy; exact hp i y hy
    · rw [List.getElem?_append_right (by omega)] at hy
      have : i = n := by have := (List.getElem?_eq_some_iff.1 hy).1; simp at this; omega
      subst this
      simp [hl] at hy
      subst hy
      exact hx
theorem add_plain (a : Addr) (h : a.spot = none) (n : Nat) : a.add n = ⟨a.block, a.off + n, none⟩ := by
  obtain ⟨b, o, s⟩ := a
  simp only at h
  subst h
  unfold Addr.add
  split
  · rename_i h0; subst h0; rfl
  · rfl
theorem spot_of_cell {w : World} {a : Addr} {v : Value} (h : w.cell? a = some v) : a.spot = none := by
  unfold World.cell? at h
  split at h
  · split at h
    · cases h
    · rename_i hs; simpa using hs
  · cases h

set_option maxRecDepth 100000 in
/-- What an argument of the type []laws.Datum is: cells that read as data. -/
theorem open_cells {H : Type} {enc : TypeId × Value → H} {w : World} {base : Nat} {spare : Nat → Bool} {held : Bool} : ∀ (fuel : Nat) (cs : List Value) (x : DataW H × List MemPlace), DataW.trod enc Try.prog w base spare held fuel 96 cs = some x →
    ∃ (A : Option Addr) (c : Nat) (l : List D), cs = [.slice A l.length c] ∧ (D.mk 0 0 ⟨#[]⟩ A c l).In w w.heap.size := by
  have c3 : Try.prog.cellsOf 3 = 1 := by kernel_rfl
  have c9 : Try.prog.cellsOf 9 = 1 := by kernel_rfl
  have c40 : Try.prog.cellsOf 96 = 1 := by kernel_rfl
  intro fuel
  induction fuel using Nat.strongRecOn with
  | _ fuel ih =>
    intro cs x h
    rcases DataW.trod_slice Try.underlying96 h with ⟨rfl, _⟩ | ⟨a, len, cap, elems, rest, n, rfl, rfl, _, _, hl, hm, hlen, hel, _⟩
    · exact ⟨none, 0, [], rfl, ⟨Nat.le_refl _, Nat.zero_le _, Nat.zero_le _⟩, fun h => absurd rfl h, trivial⟩
    · have key : ∀ i, i < len → ∃ d : D, d.In w w.heap.size ∧ w.cell? (a.add (i * 4)) = some (.int .i64 d.k) ∧ w.cell? (a.add (i * 4 + 1)) = some (.int .i64 d.n) ∧ w.cell? (a.add (i * 4 + 2)) = some (.string d.t) ∧ w.cell? (a.add (i * 4 + 3)) = some (.slice d.A d.l.length d.c) := by
        intro i hi
        have hi' := hel i hi
        rw [List.getElem?_eq_getElem (by omega)] at hi'
        obtain ⟨cs', hcs, ht⟩ := Option.bind_eq_some_iff.1 hi'
        have hC : Try.prog.cellsOf 98 = 4 := by kernel_rfl
        rw [hC] at hcs
        obtain ⟨xs, n', rfl, _, hcl, hxl, hf⟩ := DataW.trod_struct Try.underlying98 ht
        obtain ⟨_, hlen', hat⟩ := World.cells?_some hcs
        match cs', hlen' with
        | [v0, v1, v2, v3], _ =>
          have g0 := hf 0 _ rfl
          have g1 := hf 1 _ rfl
          have g2 := hf 2 _ rfl
          have g3 := hf 3 _ rfl
          have hxl' : xs.length = 4 := hxl
          change DataW.trod enc Try.prog w base spare held n' 3 (List.take (Try.prog.cellsOf 3) [v0, v1, v2, v3]) = xs[0]? at g0
          change DataW.trod enc Try.prog w base spare held n' 3 (List.take (Try.prog.cellsOf 3) [v1, v2, v3]) = xs[1]? at g1
          change DataW.trod enc Try.prog w base spare held n' 9 (List.take (Try.prog.cellsOf 9) [v2, v3]) = xs[2]? at g2
          change DataW.trod enc Try.prog w base spare held n' 96 (List.take (Try.prog.cellsOf 96) [v3]) = xs[3]? at g3
          rw [c3, List.getElem?_eq_getElem (by omega)] at g0 g1
          rw [c9, List.getElem?_eq_getElem (by omega)] at g2
          rw [c40, List.getElem?_eq_getElem (by omega)] at g3
          obtain ⟨k, e0, _⟩ := DataW.trod_int Try.underlying3 g0
          obtain ⟨nn, e1, _⟩ := DataW.trod_int Try.underlying3 g1
          obtain ⟨s, e2, _, hs⟩ := DataW.trod_string Try.underlying9 g2
          obtain ⟨A, c, l, e3, hin⟩ := ih n' (by omega) _ _ g3
          simp at e0 e1 e2 e3
          subst e0 e1 e2 e3
          have b0 := hat 0 (by omega)
          have b1 := hat 1 (by omega)
          have b2 := hat 2 (by omega)
          have b3 := hat 3 (by omega)
          rw [Go.Deep.add_add] at b0 b1 b2 b3
          exact ⟨.mk k nn s A c l, ⟨⟨hin.1.1, hin.1.2.1, hs⟩, hin.2.1, hin.2.2⟩, b0, b1, b2, b3⟩
      obtain ⟨l, hll, hp⟩ := list_of len key
      refine ⟨some a, cap, l, by rw [hll], ⟨by omega, hm, Nat.zero_le _⟩, fun hne => ?_, D.InL_iff.2 fun d hd => ?_⟩
      · have hpos : 0 < l.length := List.length_pos_iff.2 hne
        have hsp : a.spot = none := by
          obtain ⟨_, h0, _⟩ := hp 0 _ (List.getElem?_eq_getElem hpos)
          have := spot_of_cell h0
          simpa [Addr.add] using this
        refine ⟨a.block, a.off, by rw [← hsp], ?_, ?_⟩
        · obtain ⟨_, h0, _⟩ := hp 0 _ (List.getElem?_eq_getElem hpos)
          have := World.block_lt_of_cell? w _ h0
          simpa [Addr.add] using this
        · refine fun j u hu => ?_
          have hj : j < 4 * l.length := by rw [← D.cellsL_length]; exact (List.getElem?_eq_some_iff.1 hu).1
          have hi : l[j / 4]? = some l[j / 4] := List.getElem?_eq_getElem (by omega)
          have g := D.cellsL_get (ds := l) hi (j % 4) (by omega)
          rw [show 4 * (j / 4) + j % 4 = j by omega, hu] at g
          obtain ⟨_, h0, h1, h2, h3⟩ := hp _ _ hi
          rw [add_plain a hsp] at h0 h1 h2 h3
          have e : j % 4 = 0 ∨ j % 4 = 1 ∨ j % 4 = 2 ∨ j % 4 = 3 := by omega
          rcases e with e | e | e | e <;> rw [e] at g <;> simp [D.cells] at g <;> subst g
          · rwa [show j / 4 * 4 = j by omega] at h0
          · rwa [show j / 4 * 4 + 1 = j by omega] at h1
          · rwa [show j / 4 * 4 + 2 = j by omega] at h2
          · rwa [show j / 4 * 4 + 3 = j by omega] at h3
      · obtain ⟨i, hi⟩ := List.mem_iff_getElem?.1 hd
        exact (hp i d hi).1
set_option maxRecDepth 100000 in
/-- An argument of the type laws.Datum. -/
theorem open_datum {H : Type} {enc : TypeId × Value → H} {w : World} {r : Reach} {b0 base : Nat} {spare : Nat → Bool} {held : Bool} {v : Value} {x : DataW H} {ps : List MemPlace} (hv : Value.okWide Try.prog w r b0 98 v) (h : DataW.Trod enc Try.prog w base spare held 98 v x ps) :
    ∃ d : D, v = d.val ∧ d.In w w.heap.size := by
  have c3 : Try.prog.cellsOf 3 = 1 := by kernel_rfl
  have c9 : Try.prog.cellsOf 9 = 1 := by kernel_rfl
  have c40 : Try.prog.cellsOf 96 = 1 := by kernel_rfl
  have hC : Try.prog.cellsOf 98 = 4 := by kernel_rfl
  obtain ⟨cs, rfl, hsz⟩ := okWide_struct Try.underlying98 hv
  obtain ⟨fuel, hf⟩ := h
  obtain ⟨l⟩ := cs
  match l, hsz.trans hC with
  | [v0, v1, v2, v3], _ =>
    obtain ⟨xs, n', rfl, _, hcl, hxl, hf⟩ := DataW.trod_struct Try.underlying98 hf
    have g0 := hf 0 _ rfl
    have g1 := hf 1 _ rfl
    have g2 := hf 2 _ rfl
    have g3 := hf 3 _ rfl
    have hxl' : xs.length = 4 := hxl
    change DataW.trod enc Try.prog w base spare held n' 3 (List.take (Try.prog.cellsOf 3) [v0, v1, v2, v3]) = xs[0]? at g0
    change DataW.trod enc Try.prog w base spare held n' 3 (List.take (Try.prog.cellsOf 3) [v1, v2, v3]) = xs[1]? at g1
    change DataW.trod enc Try.prog w base spare held n' 9 (List.take (Try.prog.cellsOf 9) [v2, v3]) = xs[2]? at g2
    change DataW.trod enc Try.prog w base spare held n' 96 (List.take (Try.prog.cellsOf 96) [v3]) = xs[3]? at g3
    rw [c3, List.getElem?_eq_getElem (by omega)] at g0 g1
    rw [c9, List.getElem?_eq_getElem (by omega)] at g2
    rw [c40, List.getElem?_eq_getElem (by omega)] at g3
    obtain ⟨k, e0, _⟩ := DataW.trod_int Try.underlying3 g0
    obtain ⟨nn, e1, _⟩ := DataW.trod_int Try.underlying3 g1
    obtain ⟨s, e2, _, hs⟩ := DataW.trod_string Try.underlying9 g2
    obtain ⟨A, c, l, e3, hin⟩ := open_cells n' _ _ g3
    simp at e0 e1 e2 e3
    subst e0 e1 e2 e3
    exact ⟨.mk k nn s A c l, rfl, ⟨⟨hin.1.1, hin.1.2.1, hs⟩, hin.2.1, hin.2.2⟩⟩
set_option maxRecDepth 100000 in
/-- An argument of the type []laws.Datum. -/
theorem open_data {H : Type} {enc : TypeId × Value → H} {w : World} {r : Reach} {b0 base : Nat} {spare : Nat → Bool} {held : Bool} {v : Value} {x : DataW H} {ps : List MemPlace} (hv : Value.okWide Try.prog w r b0 96 v) (h : DataW.Trod enc Try.prog w base spare held 96 v x ps) :
    ∃ (A : Option Addr) (c : Nat) (l : List D), v = .slice A l.length c ∧ (D.mk 0 0 ⟨#[]⟩ A c l).In w w.heap.size := by
  obtain ⟨a, len, cap, rfl⟩ := okWide_slice Try.underlying96 hv
  obtain ⟨fuel, hf⟩ := h
  obtain ⟨A, c, l, e, hin⟩ := open_cells fuel _ _ hf
  have e' : Value.slice a len cap = .slice A l.length c := by simpa [Value.cells] using e
  exact ⟨A, c, l, e', hin⟩
end Go.Proofs.Ytpigpncbjckbcaa

namespace Go.Proofs.Ytpigpncbjckbcaa
open Go.ChangeShapes Go.WideShapes Go.ChangeAt Go.RowKit

set_option maxRecDepth 100000 in
theorem open_introw {H : Type} {enc : TypeId × Value → H} {w : World} {base : Nat} {spare : Nat → Bool} {held : Bool} {fuel : Nat} {cs : List Value} {x : DataW H × List MemPlace} (h : DataW.trod enc Try.prog w base spare held fuel 36 cs = some x) :
    ∃ (A : Option Addr) (c : Nat) (l : List Int), cs = [.slice A l.length c] ∧ IIn w w.heap.size A c l := by
  rcases Go.ChangeShapes.open_ints (k := .i64) Try.underlying36 Try.underlying3 (by kernel_rfl) h with ⟨rfl, _⟩ | ⟨a, len, cap, zs, rfl, _, hl, hm, hz, _, hc, _⟩
  · exact ⟨none, 0, [], rfl, IIn.nil_ (by omega) (fun _ => rfl)⟩
  · have hzl : len ≤ zs.length := by rw [hz]; split <;> omega
    refine ⟨some a, cap, zs.take len, by rw [List.length_take, Nat.min_eq_left hzl], ⟨by rw [List.length_take, Nat.min_eq_left hzl]; exact ⟨hl, hm⟩, by simp, fun hne => ?_⟩⟩
    have hpos : 0 < len := by
      rcases Nat.eq_zero_or_pos len with h0 | h0
      · subst h0; simp at hne
      · exact h0
    have h0 := hc 0 (by omega)
    have hsp : a.spot = none := by
      have := spot_of_cell h0
      simpa [Addr.add] using this
    refine ⟨a.block, a.off, by rw [← hsp], ?_, fun j u hu => ?_⟩
    · have := World.block_lt_of_cell? w _ h0
      simpa [Addr.add] using this
    · rw [List.getElem?_take] at hu
      split at hu
      · rename_i hj
        have hj' : j < zs.length := by omega
        have hcj := hc j hj'
        rw [add_plain a hsp] at hcj
        rw [hcj]
        simp [hu]
      · cases hu
set_option maxRecDepth 100000 in
theorem open_intl {H : Type} {enc : TypeId × Value → H} {w : World} {r : Reach} {b0 base : Nat} {spare : Nat → Bool} {held : Bool} {v : Value} {x : DataW H} {ps : List MemPlace} (hv : Value.okWide Try.prog w r b0 36 v) (h : DataW.Trod enc Try.prog w base spare held 36 v x ps) :
    ∃ (A : Option Addr) (c : Nat) (l : List Int), v = .slice A l.length c ∧ IIn w w.heap.size A c l := by
  obtain ⟨a, len, cap, rfl⟩ := okWide_slice Try.underlying36 hv
  obtain ⟨fuel, hf⟩ := h
  obtain ⟨A, c, l, e, hin⟩ := open_introw hf
  have e' : Value.slice a len cap = .slice A l.length c := by simpa [Value.cells] using e
  exact ⟨A, c, l, e', hin⟩
end Go.Proofs.Ytpigpncbjckbcaa

namespace Go.Proofs.Ytpigpncbjckbcaa
open Go.ChangeShapes Go.WideShapes Go.ChangeAt Go.RowKit

end Go.Proofs.Ytpigpncbjckbcaa
