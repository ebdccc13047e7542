/-
  The model's substitution in a core term (written by gen/kosub.py).
-/
import Derived.Test.YtpigpncbjckbcaaGreatKcy
import Derived.Test.YtpigpncbjckbcaaGreatGEl
import Derived.Test.YtpigpncbjckbcaaGreatGMk
import Derived.Deep.RegionHeld3
namespace Go.Proofs.YtpigpncbjckbcaaGreat
open Go.RowKit
theorem Ko.own_join {lo hi : Nat} {w : World} {x : Ko} {P : Option Addr} {k : Nat} {m : List (Tr Ko)} (hx : Ko.H.Own lo hi w x) (hl : Ko.E.LOwn lo hi w P k m) (hd : ∀ b ∈ Ko.H.blks x, b ∉ Ko.E.lblks P m) : Ko.E.Own lo hi w (.mk x P k m) := by
  have eb : Ko.E.blks (.mk x P k m) = Ko.H.blks x ++ Ko.E.lblks P m := Tr.blks_eq x P k m
  refine ⟨Tr.in_iff.2 ⟨hx.inn, hl.inn⟩, fun b hb => ?_, ?_, fun b hb o => ?_⟩
  · rw [eb, List.mem_append] at hb
    exact hb.elim (hx.lo_ b) (hl.lo_ b)
  · rw [eb]
    exact List.nodup_append.2 ⟨hx.nd, hl.nd, fun p hp q hq e => hd p hp (e ▸ hq)⟩
  · rw [eb, List.mem_append] at hb
    exact hb.elim (fun h => hx.fr b h o) (fun h => hl.fr b h o)
def Ko.put8 (w1 : World) (b p : Nat) (y : Tr Ko) : World := ((((((((w1.setCell ⟨b, p, none⟩ (.int .i64 y.a.k)).setCell ⟨b, p + 1, none⟩ (.int .i64 y.a.n)).setCell ⟨b, p + 2, none⟩ (.slice y.a.sA y.a.s.length y.a.sC)).setCell ⟨b, p + 3, none⟩ (.int .i64 y.a.d.k)).setCell ⟨b, p + 4, none⟩ (.int .i64 y.a.d.n)).setCell ⟨b, p + 5, none⟩ (.string y.a.d.t)).setCell ⟨b, p + 6, none⟩ (.slice y.a.d.A y.a.d.l.length y.a.d.c)).setCell ⟨b, p + 7, none⟩ (.slice y.A y.l.length y.c))
theorem Ko.repl8 {w w1 : World} {lo hi b o c j : Nat} {pre suf : List (Tr Ko)} {x y : Tr Ko} (h : Ko.E.LOwn lo hi w (some ⟨b, o, none⟩) c (pre ++ x :: suf)) (hj : pre.length = j) (hhi : hi ≤ w.heap.size) (hb1 : Below w.heap.size w w1) (hy : Ko.E.Own w.heap.size w1.heap.size w1 y) :
    Ko.E.LOwn lo w1.heap.size (Ko.put8 w1 b (o + j * 8) y) (some ⟨b, o, none⟩) c (pre ++ y :: suf) ∧ Chg [b] w (Ko.put8 w1 b (o + j * 8) y) ∧ (Ko.put8 w1 b (o + j * 8) y).heap.size = w1.heap.size := by
  obtain ⟨b', o', e, hblk, c0, c1, c2, c3, c4, c5, c6, c7, hix⟩ := Ko.at_ h.inn (i := j) (x := x) (by rw [List.getElem?_append_right (by omega), hj]; simp)
  obtain ⟨rfl, rfl, _⟩ := Addr.mk.inj (Option.some.inj e)
  have hz : (Ko.put8 w1 b (o + j * 8) y).heap.size = w1.heap.size := by unfold Ko.put8; simp only [World.size_setCell]
  have lb : b < w.heap.size := by omega
  have d0 := (hb1.cell (p := ⟨b, o + j * 8, none⟩) lb).trans c0
  have d1 := (hb1.cell (p := ⟨b, o + j * 8 + 1, none⟩) lb).trans c1
  have d2 := (hb1.cell (p := ⟨b, o + j * 8 + 2, none⟩) lb).trans c2
  have d3 := (hb1.cell (p := ⟨b, o + j * 8 + 3, none⟩) lb).trans c3
  have d4 := (hb1.cell (p := ⟨b, o + j * 8 + 4, none⟩) lb).trans c4
  have d5 := (hb1.cell (p := ⟨b, o + j * 8 + 5, none⟩) lb).trans c5
  have d6 := (hb1.cell (p := ⟨b, o + j * 8 + 6, none⟩) lb).trans c6
  have d7 := (hb1.cell (p := ⟨b, o + j * 8 + 7, none⟩) lb).trans c7
  refine ⟨?_, ?_, hz⟩
  · have := h.repl (w' := Ko.put8 w1 b (o + j * 8) y) (y := y) hhi hb1 hy hz (fun k hk => ?_) (fun q => ?_) (fun q hq => ?_) (fun i u hu => ?_)
    · rw [hz] at this; exact this
    · unfold Ko.put8
      have e : ∀ (u : World) (p : Nat) (x : Value), (u.setCell ⟨b, p, none⟩ x).heap[k]? = u.heap[k]? := fun u p x => Below.heap_setCell _ _ _ _ (by simpa using hk)
      rw [e, e, e, e, e, e, e, e]
    · unfold Ko.put8
      rw [World.frozen?_setCell, World.frozen?_setCell, World.frozen?_setCell, World.frozen?_setCell, World.frozen?_setCell, World.frozen?_setCell, World.frozen?_setCell, World.frozen?_setCell]
    · rw [hj, Ko.E_n] at hq
      unfold Ko.put8
      rw [icell_ne _ _ _ _ _ (by omega), icell_ne _ _ _ _ _ (by omega), icell_ne _ _ _ _ _ (by omega), icell_ne _ _ _ _ _ (by omega), icell_ne _ _ _ _ _ (by omega), icell_ne _ _ _ _ _ (by omega), icell_ne _ _ _ _ _ (by omega), icell_ne _ _ _ _ _ (by omega)]
    · rw [hj, Ko.E_n]
      have hi8 : i < 8 := by
        have h1 := (List.getElem?_eq_some_iff.1 hu).1
        have h2 := Ko.E.len y
        rw [h2, Ko.E_n] at h1; exact h1
      have ec : Ko.E.cells y = [.int .i64 y.a.k, .int .i64 y.a.n, .slice y.a.sA y.a.s.length y.a.sC, .int .i64 y.a.d.k, .int .i64 y.a.d.n, .string y.a.d.t, .slice y.a.d.A y.a.d.l.length y.a.d.c, .slice y.A y.l.length y.c] := rfl
      rw [ec] at hu
      unfold Ko.put8
      have e8 : i = 0 ∨ i = 1 ∨ i = 2 ∨ i = 3 ∨ i = 4 ∨ i = 5 ∨ i = 6 ∨ i = 7 := by omega
      rcases e8 with rfl | rfl | rfl | rfl | rfl | rfl | rfl | rfl <;> simp at hu <;> subst hu
      · show World.cell? _ ⟨b, o + j * 8, none⟩ = _; rw [icell_ne _ _ _ _ _ (by omega), icell_ne _ _ _ _ _ (by omega), icell_ne _ _ _ _ _ (by omega), icell_ne _ _ _ _ _ (by omega), icell_ne _ _ _ _ _ (by omega), icell_ne _ _ _ _ _ (by omega), icell_ne _ _ _ _ _ (by omega), icell_eq (v := .int .i64 x.a.k) d0]
      · rw [icell_ne _ _ _ _ _ (by omega), icell_ne _ _ _ _ _ (by omega), icell_ne _ _ _ _ _ (by omega), icell_ne _ _ _ _ _ (by omega), icell_ne _ _ _ _ _ (by omega), icell_ne _ _ _ _ _ (by omega), icell_eq (v := .int .i64 x.a.n) (by rw [icell_ne _ _ _ _ _ (by omega)]; exact d1)]
      · rw [icell_ne _ _ _ _ _ (by omega), icell_ne _ _ _ _ _ (by omega), icell_ne _ _ _ _ _ (by omega), icell_ne _ _ _ _ _ (by omega), icell_ne _ _ _ _ _ (by omega), icell_eq (v := .slice x.a.sA x.a.s.length x.a.sC) (by rw [icell_ne _ _ _ _ _ (by omega), icell_ne _ _ _ _ _ (by omega)]; exact d2)]
      · rw [icell_ne _ _ _ _ _ (by omega), icell_ne _ _ _ _ _ (by omega), icell_ne _ _ _ _ _ (by omega), icell_ne _ _ _ _ _ (by omega), icell_eq (v := .int .i64 x.a.d.k) (by rw [icell_ne _ _ _ _ _ (by omega), icell_ne _ _ _ _ _ (by omega), icell_ne _ _ _ _ _ (by omega)]; exact d3)]
      · rw [icell_ne _ _ _ _ _ (by omega), icell_ne _ _ _ _ _ (by omega), icell_ne _ _ _ _ _ (by omega), icell_eq (v := .int .i64 x.a.d.n) (by rw [icell_ne _ _ _ _ _ (by omega), icell_ne _ _ _ _ _ (by omega), icell_ne _ _ _ _ _ (by omega), icell_ne _ _ _ _ _ (by omega)]; exact d4)]
      · rw [icell_ne _ _ _ _ _ (by omega), icell_ne _ _ _ _ _ (by omega), icell_eq (v := .string x.a.d.t) (by rw [icell_ne _ _ _ _ _ (by omega), icell_ne _ _ _ _ _ (by omega), icell_ne _ _ _ _ _ (by omega), icell_ne _ _ _ _ _ (by omega), icell_ne _ _ _ _ _ (by omega)]; exact d5)]
      · rw [icell_ne _ _ _ _ _ (by omega), icell_eq (v := .slice x.a.d.A x.a.d.l.length x.a.d.c) (by rw [icell_ne _ _ _ _ _ (by omega), icell_ne _ _ _ _ _ (by omega), icell_ne _ _ _ _ _ (by omega), icell_ne _ _ _ _ _ (by omega), icell_ne _ _ _ _ _ (by omega), icell_ne _ _ _ _ _ (by omega)]; exact d6)]
      · rw [icell_eq (v := .slice x.A x.l.length x.c) (by rw [icell_ne _ _ _ _ _ (by omega), icell_ne _ _ _ _ _ (by omega), icell_ne _ _ _ _ _ (by omega), icell_ne _ _ _ _ _ (by omega), icell_ne _ _ _ _ _ (by omega), icell_ne _ _ _ _ _ (by omega), icell_ne _ _ _ _ _ (by omega)]; exact d7)]
  · have m0 : b ∈ [b] := by simp
    unfold Ko.put8
    exact (((((((((Chg.of_below hb1).setCell (p := ⟨b, o + j * 8, none⟩) (.inl m0) (.int .i64 y.a.k)).setCell (p := ⟨b, o + j * 8 + 1, none⟩) (.inl m0) (.int .i64 y.a.n)).setCell (p := ⟨b, o + j * 8 + 2, none⟩) (.inl m0) (.slice y.a.sA y.a.s.length y.a.sC)).setCell (p := ⟨b, o + j * 8 + 3, none⟩) (.inl m0) (.int .i64 y.a.d.k)).setCell (p := ⟨b, o + j * 8 + 4, none⟩) (.inl m0) (.int .i64 y.a.d.n)).setCell (p := ⟨b, o + j * 8 + 5, none⟩) (.inl m0) (.string y.a.d.t)).setCell (p := ⟨b, o + j * 8 + 6, none⟩) (.inl m0) (.slice y.a.d.A y.a.d.l.length y.a.d.c)).setCell (p := ⟨b, o + j * 8 + 7, none⟩) (.inl m0) (.slice y.A y.l.length y.c))
end Go.Proofs.YtpigpncbjckbcaaGreat
