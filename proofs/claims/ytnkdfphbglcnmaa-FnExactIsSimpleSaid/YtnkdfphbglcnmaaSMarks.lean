/-
  The laws' own functions on syntax objects: marking.
-/
import Derived.Test.YtnkdfphbglcnmaaSBase
import Derived.Test.YtnkdfphbglcnmaaMarks
import Derived.Test.YtnkdfphbglcnmaaSTrees
import Derived.Deep.RegionHeld3
namespace Go.Proofs.Ytnkdfphbglcnmaa
open Go.RowKit
namespace S
mutual
/-- How many marks a node takes. -/
def wt : S → Nat | .mk _ _ _ _ _ s _ _ l => 3 + (s.length + wtL l)
def wtL : List S → Nat | [] => 0 | d :: r => wt d + wtL r
end
mutual
/-- The marked object. -/
def markS : S → Int → S | .mk _ _ _ sa sc s A c l, q => .mk q (q + 1) (markB (q + 2)) sa sc (markI s (q + 3)) A c (markSL l (q + 3 + s.length))
def markSL : List S → Int → List S | [], _ => [] | d :: r, q => markS d q :: markSL r (q + wt d)
end
theorem wtL_append (a b : List S) : wtL (a ++ b) = wtL a + wtL b := by
  induction a with
  | nil => simp [wtL]
  | cons d r ih => simp [wtL, ih]; omega
theorem wt_eq (d : S) : d.wt = 3 + (d.s.length + wtL d.l) := by cases d; rfl
theorem markSL_length (l : List S) : ∀ q, (markSL l q).length = l.length := by
  induction l with
  | nil => intro q; rfl
  | cons d r ih => intro q; simp [markSL, ih]
theorem markSL_append (a b : List S) : ∀ q, markSL (a ++ b) q = markSL a q ++ markSL b (q + wtL a) := by
  induction a with
  | nil => intro q; simp [markSL, wtL]
  | cons d r ih => intro q; simp [markSL, wtL, ih]; congr 1; omega
theorem blks_markS (d : S) : ∀ q, blks (markS d q) = blks d := by
  induction d using ind with
  | h d ih =>
    cases d with
    | mk k n t sa sc s A c l =>
      intro q
      have key : ∀ l' : List S, (∀ x ∈ l', x ∈ l) → ∀ q, blksL (markSL l' q) = blksL l' := by
        intro l'
        induction l' with
        | nil => intro _ q; rfl
        | cons x r ih2 =>
          intro hs q
          simp only [markSL, blksL]
          rw [ih x (hs x (by simp)), ih2 fun y hy => hs y (by simp [hy])]
      simp only [markS, blks, key l (fun _ h => h), iblk_mark]
      congr 2
      cases l <;> rfl
theorem blksL_markS (l : List S) : ∀ q, blksL (markSL l q) = blksL l := by
  induction l with
  | nil => intro q; rfl
  | cons x r ih => intro q; simp only [markSL, blksL, blks_markS, ih]

/-- The items alone. -/
def itm (A : Option Addr) (c : Nat) (l : List S) : S := .mk 0 0 ⟨#[]⟩ none 0 [] A c l
theorem blks_itm (k n : Int) (t : ByteArray) (sa : Option Addr) (sc : Nat) (s : List Int) (A : Option Addr) (c : Nat) (l : List S) : blks (.mk k n t sa sc s A c l) = iblk sa s ++ blks (itm A c l) := by simp [itm, blks, iblk]
theorem Own.itm_ {lo hi : Nat} {w : World} {k n : Int} {t : ByteArray} {sa : Option Addr} {sc : Nat} {s : List Int} {A : Option Addr} {c : Nat} {l : List S} (h : Own lo hi w (.mk k n t sa sc s A c l)) : Own lo hi w (itm A c l) ∧ ∀ b ∈ iblk sa s, b ∉ blks (itm A c l) := by
  have e := blks_itm k n t sa sc s A c l
  have hnd := h.nd
  rw [e] at hnd
  obtain ⟨_, h2, h3⟩ := List.nodup_append.1 hnd
  refine ⟨⟨⟨⟨h.inn.1.1, h.inn.1.2.1, Nat.zero_le _⟩, IIn.nil_ (by omega) (fun _ => rfl), h.inn.2.2.1, h.inn.2.2.2⟩, fun b hb => h.lo_ b (by rw [e]; simp [hb]), h2, fun b hb => h.fr b (by rw [e]; simp [hb])⟩, fun b hb hb2 => h3 b hb b hb2 rfl⟩
theorem Own.of_itm {lo hi : Nat} {w : World} {k n : Int} {t : ByteArray} {sa : Option Addr} {sc : Nat} {s : List Int} {A : Option Addr} {c : Nat} {l : List S} (h : Own lo hi w (itm A c l)) (hs : IOwn lo hi w sa sc s) (hd : ∀ b ∈ iblk sa s, b ∉ blks (itm A c l)) (ht : t.size ≤ 9223372036854775807) : Own lo hi w (.mk k n t sa sc s A c l) := by
  have e := blks_itm k n t sa sc s A c l
  refine ⟨⟨⟨h.inn.1.1, h.inn.1.2.1, ht⟩, hs.inn, h.inn.2.2.1, h.inn.2.2.2⟩, fun b hb => ?_, ?_, fun b hb o => ?_⟩
  · rw [e, List.mem_append] at hb
    rcases hb with hb | hb
    · exact hs.lo_ b hb
    · exact h.lo_ b hb
  · rw [e]
    exact List.nodup_append.2 ⟨iblk_nodup _ _, h.nd, fun a ha b hb' e => hd a ha (by rw [e]; exact hb')⟩
  · rw [e, List.mem_append] at hb
    rcases hb with hb | hb
    · exact hs.fr b hb o
    · exact h.fr b hb o

/-- The row at ⟨b, o⟩ bears these syntax objects. -/
def RowIs (w : World) (b o : Nat) (ds : List S) : Prop := ∀ i d, ds[i]? = some d → w.cell? ⟨b, o + i * 5, none⟩ = some (.int .i64 d.k) ∧ w.cell? ⟨b, o + i * 5 + 1, none⟩ = some (.int .i64 d.n) ∧ w.cell? ⟨b, o + i * 5 + 2, none⟩ = some (.string d.t) ∧
      w.cell? ⟨b, o + i * 5 + 3, none⟩ = some (.slice d.sa d.s.length d.sc) ∧ w.cell? ⟨b, o + i * 5 + 4, none⟩ = some (.slice d.A d.l.length d.c)
theorem RowIs.of_cells {w : World} {b o : Nat} {ds : List S} (h : ∀ (j : Nat) (u : Value), (cellsL ds)[j]? = some u → w.cell? ⟨b, o + j, none⟩ = some u) : RowIs w b o ds := by
  intro i d hi
  have g := fun j (hj : j < 5) => cellsL_get (ds := ds) hi j hj
  refine ⟨?_, ?_, ?_, ?_, ?_⟩
  · have := h (5 * i + 0) _ (by rw [g 0 (by omega)]; rfl)
    rwa [show o + (5 * i + 0) = o + i * 5 by omega] at this
  · have := h (5 * i + 1) _ (by rw [g 1 (by omega)]; rfl)
    rwa [show o + (5 * i + 1) = o + i * 5 + 1 by omega] at this
  · have := h (5 * i + 2) _ (by rw [g 2 (by omega)]; rfl)
    rwa [show o + (5 * i + 2) = o + i * 5 + 2 by omega] at this
  · have := h (5 * i + 3) _ (by rw [g 3 (by omega)]; rfl)
    rwa [show o + (5 * i + 3) = o + i * 5 + 3 by omega] at this
  · have := h (5 * i + 4) _ (by rw [g 4 (by omega)]; rfl)
    rwa [show o + (5 * i + 4) = o + i * 5 + 4 by omega] at this
theorem RowIs.cells {w : World} {b o : Nat} {ds : List S} (h : RowIs w b o ds) : ∀ (j : Nat) (u : Value), (cellsL ds)[j]? = some u → w.cell? ⟨b, o + j, none⟩ = some u := by
  intro j u hu
  have hj : j < 5 * ds.length := by rw [← cellsL_length]; exact (List.getElem?_eq_some_iff.1 hu).1
  have hi : ds[j / 5]? = some ds[j / 5] := List.getElem?_eq_getElem (by omega)
  have g := cellsL_get (ds := ds) hi (j % 5) (by omega)
  rw [show 5 * (j / 5) + j % 5 = j by omega, hu] at g
  obtain ⟨h0, h1, h2, h3, h4⟩ := h _ _ hi
  have e : j % 5 = 0 ∨ j % 5 = 1 ∨ j % 5 = 2 ∨ j % 5 = 3 ∨ j % 5 = 4 := by omega
  rcases e with e | e | e | e | e <;> rw [e] at g <;> simp [S.cells] at g <;> subst g
  · rwa [show o + j = o + j / 5 * 5 by omega]
  · rwa [show o + j = o + j / 5 * 5 + 1 by omega]
  · rwa [show o + j = o + j / 5 * 5 + 2 by omega]
  · rwa [show o + j = o + j / 5 * 5 + 3 by omega]
  · rwa [show o + j = o + j / 5 * 5 + 4 by omega]
theorem RowIs.upd {w w' : World} {b o j : Nat} {pre suf : List S} {x y : S} (h : RowIs w b o (pre ++ x :: suf)) (hj : pre.length = j)
    (hs : ∀ q, q ≠ o + j * 5 → q ≠ o + j * 5 + 1 → q ≠ o + j * 5 + 2 → w'.cell? ⟨b, q, none⟩ = w.cell? ⟨b, q, none⟩)
    (h0 : w'.cell? ⟨b, o + j * 5, none⟩ = some (.int .i64 y.k)) (h1 : w'.cell? ⟨b, o + j * 5 + 1, none⟩ = some (.int .i64 y.n)) (h2 : w'.cell? ⟨b, o + j * 5 + 2, none⟩ = some (.string y.t))
    (hA : y.A = x.A) (hl : y.l.length = x.l.length) (hc : y.c = x.c) (hsa : y.sa = x.sa) (hsl : y.s.length = x.s.length) (hsc : y.sc = x.sc) : RowIs w' b o (pre ++ y :: suf) := by
  intro i d hi
  obtain ⟨_, _, _, hx3, hx4⟩ := h j x (by rw [List.getElem?_append_right (by omega), hj]; simp)
  by_cases e : i = j
  · subst e
    rw [List.getElem?_append_right (by omega), hj] at hi
    simp at hi
    subst hi
    refine ⟨h0, h1, h2, ?_, ?_⟩
    · rw [hs _ (by omega) (by omega) (by omega), hx3, hsa, hsl, hsc]
    · rw [hs _ (by omega) (by omega) (by omega), hx4, hA, hl, hc]
  · have hi' : (pre ++ x :: suf)[i]? = some d := by
      by_cases hlt : i < j
      · rw [List.getElem?_append_left (by omega)] at hi ⊢; exact hi
      · rw [List.getElem?_append_right (by omega)] at hi ⊢
        obtain ⟨q, hq⟩ : ∃ q, i - pre.length = q + 1 := ⟨i - pre.length - 1, by omega⟩
        rw [hq] at hi ⊢
        simpa using hi
    obtain ⟨g0, g1, g2, g3, g4⟩ := h i d hi'
    exact ⟨by rw [hs _ (by omega) (by omega) (by omega)]; exact g0, by rw [hs _ (by omega) (by omega) (by omega)]; exact g1, by rw [hs _ (by omega) (by omega) (by omega)]; exact g2, by rw [hs _ (by omega) (by omega) (by omega)]; exact g3, by rw [hs _ (by omega) (by omega) (by omega)]; exact g4⟩

section
variable {w w' : World} {lo hi : Nat} {x y : S} {pre suf l : List S}
theorem OwnL.mid (h : OwnL lo hi w (pre ++ x :: suf)) : Own lo hi w x := by
  have hb : ∀ b ∈ blks x, b ∈ blksL (pre ++ x :: suf) := fun b hb => by simp [blksL_append, blksL, hb]
  refine ⟨InL_iff.1 h.inn x (by simp), fun b hm => h.lo_ b (hb b hm), ?_, fun b hm => h.fr b (hb b hm)⟩
  have := h.nd
  simp only [blksL_append, blksL] at this
  exact (List.nodup_append.1 (List.nodup_append.1 this).2.1).1
theorem OwnL.mid_far (h : OwnL lo hi w (pre ++ x :: suf)) : ∀ b, b ∈ blksL pre ∨ b ∈ blksL suf → b ∉ blks x := by
  have h1 := h.nd
  simp only [blksL_append, blksL] at h1
  obtain ⟨_, h2, h3⟩ := List.nodup_append.1 h1
  obtain ⟨_, _, h4⟩ := List.nodup_append.1 h2
  intro b hb hx
  rcases hb with hb | hb
  · exact h3 b hb b (by simp [hx]) rfl
  · exact h4 b hx b hb rfl
theorem OwnL.put (h : OwnL lo hi w (pre ++ x :: suf)) (hk : ∀ k, k ∈ blksL pre ∨ k ∈ blksL suf → w'.heap[k]? = w.heap[k]?) (hy : Own lo hi w' y) (hb : blks y = blks x) : OwnL lo hi w' (pre ++ y :: suf) := by
  have e : blksL (pre ++ y :: suf) = blksL (pre ++ x :: suf) := by simp [blksL_append, blksL, hb]
  refine ⟨?_, fun b hm => h.lo_ b (by rwa [e] at hm), by rw [e]; exact h.nd, ?_⟩
  · rw [InL_append]
    refine ⟨InL_iff.2 fun z hz => ?_, hy.inn, InL_iff.2 fun z hz => ?_⟩
    · exact (InL_iff.1 h.inn z (by simp [hz])).keepB fun p hp => hk _ (.inl (blksL_mem.2 ⟨z, hz, hp⟩))
    · exact (InL_iff.1 h.inn z (by simp [hz])).keepB fun p hp => hk _ (.inr (blksL_mem.2 ⟨z, hz, hp⟩))
  · intro b hm o
    simp only [blksL_append, blksL, List.mem_append] at hm
    rcases hm with hm | hm | hm
    · exact (World.frozen?_of_block (a := ⟨b, o, none⟩) (hk b (.inl hm))).trans (h.fr b (by simp [blksL_append, hm]) o)
    · exact hy.fr b hm o
    · exact (World.frozen?_of_block (a := ⟨b, o, none⟩) (hk b (.inr hm))).trans (h.fr b (by simp [blksL_append, blksL, hm]) o)
/-- What is owned, taken apart. -/
theorem Own.parts {A : Option Addr} {c : Nat} (h : Own lo hi w (itm A c l)) (hl : l ≠ []) :
    ∃ b o, A = some ⟨b, o, none⟩ ∧ lo ≤ b ∧ b < hi ∧ b ∉ blksL l ∧ (∀ q, w.frozen? ⟨b, q, none⟩ = false) ∧ RowIs w b o l ∧ OwnL lo hi w l ∧ blks (itm A c l) = b :: blksL l := by
  obtain ⟨b, o, rfl, hb, hc⟩ := h.inn.2.2.1 hl
  have e : blks (itm (some ⟨b, o, none⟩) c l) = b :: blksL l := by
    cases l with
    | nil => exact absurd rfl hl
    | cons _ _ => simp [itm, blks, iblk]
  have hnd := h.nd
  rw [e, List.nodup_cons] at hnd
  exact ⟨b, o, rfl, h.lo_ b (by simp [e]), hb, hnd.1, h.fr b (by simp [e]), RowIs.of_cells hc, ⟨h.inn.2.2.2, fun q hq => h.lo_ q (by simp [e, hq]), hnd.2, fun q hq => h.fr q (by simp [e, hq])⟩, e⟩
theorem Own.join {b o c : Nat} (h : OwnL lo hi w l) (hc : l.length ≤ c ∧ c ≤ maxLen) (hlo : lo ≤ b) (hhi : b < hi) (hg : b ∉ blksL l)
    (hf : ∀ q, w.frozen? ⟨b, q, none⟩ = false) (hr : RowIs w b o l) : Own lo hi w (itm (some ⟨b, o, none⟩) c l) := by
  refine ⟨⟨⟨hc.1, hc.2, Nat.zero_le _⟩, IIn.nil_ (by omega) (fun _ => rfl), fun _ => ⟨b, o, rfl, hhi, hr.cells⟩, h.inn⟩, ?_, ?_, ?_⟩
  · intro q hm
    simp only [itm, blks, iblk, List.mem_append] at hm
    rcases hm with hm | hm | hm
    · simp at hm
    · split at hm
      · simp at hm
      · simp at hm; omega
    · exact h.lo_ q hm
  · cases l with
    | nil => simp [itm, blks, iblk, blksL]
    | cons x r => simpa [itm, blks, iblk] using ⟨hg, h.nd⟩
  · intro q hm r
    simp only [itm, blks, iblk, List.mem_append] at hm
    rcases hm with hm | hm | hm
    · simp at hm
    · split at hm
      · simp at hm
      · simp at hm; subst hm; exact hf r
    · exact h.fr q hm r
end
end S

/-- What a round leaves: W2 behind the three stores, w3 behind the scopes, w4 behind the items. -/
theorem smark_round {wr w1 w3 w4 : World} {b o j lo hi : Nat} {pre suf : List S} {k n : Int} {t : ByteArray} {sa : Option Addr} {sc : Nat} {s : List Int} {A : Option Addr} {c : Nat} {l : List S} {Q : Int} (hbw : b < wr.heap.size) (hhi : hi ≤ wr.heap.size)
    (hr : S.RowIs wr b o (pre ++ (S.mk k n t sa sc s A c l) :: suf)) (ho : S.OwnL lo hi wr (pre ++ (S.mk k n t sa sc s A c l) :: suf)) (hbn : b ∉ S.blksL (pre ++ (S.mk k n t sa sc s A c l) :: suf)) (hpre : pre.length = j)
    (hfr : ∀ q, wr.frozen? ⟨b, q, none⟩ = false) (hQ : Q + 2 ≤ 9223372036854775807)
    (hb1 : Below wr.heap.size ((wr.setCell ⟨b, o + j * 5, none⟩ (.int .i64 Q)).setCell ⟨b, o + j * 5 + 1, none⟩ (.int .i64 (Q + 1))) w1)
    (hs3 : IOwn lo hi w3 sa sc (markI s (Q + 3))) (hch3 : Chg (iblk sa s) (w1.setCell ⟨b, o + j * 5 + 2, none⟩ (.string (markB (Q + 2)))) w3)
    (hi4 : (S.itm A c (S.markSL l (Q + 3 + s.length))).Own lo hi w4) (hch4 : Chg (S.blks (S.itm A c l)) w3 w4) :
    S.RowIs w4 b o (pre ++ S.markS (.mk k n t sa sc s A c l) Q :: suf) ∧ S.OwnL lo hi w4 (pre ++ S.markS (.mk k n t sa sc s A c l) Q :: suf) ∧ (∀ q, w4.frozen? ⟨b, q, none⟩ = false) ∧ Chg (b :: S.blksL (pre ++ (S.mk k n t sa sc s A c l) :: suf)) wr w4 := by
  have hx : (pre ++ (S.mk k n t sa sc s A c l) :: suf)[j]? = some (S.mk k n t sa sc s A c l) := by rw [List.getElem?_append_right (by omega), hpre]; simp
  obtain ⟨c0, c1, c2, c3, c4⟩ := hr j _ hx
  have hmx : ∀ q, q ∈ S.blks (.mk k n t sa sc s A c l) → q ∈ S.blksL (pre ++ (S.mk k n t sa sc s A c l) :: suf) := fun q hq => by simp [S.blksL_append, S.blksL, hq]
  have ebl := S.blks_itm k n t sa sc s A c l
  have hbx : b ∉ S.blks (.mk k n t sa sc s A c l) := fun h => hbn (hmx b h)
  rw [ebl, List.mem_append, not_or] at hbx
  have hz := hb1.size
  simp only [World.size_setCell] at hz
  have z3 := hch3.size
  simp only [World.size_setCell] at z3
  have z4 := hch4.size
  have hh : ∀ q, q < wr.heap.size → q ≠ b → q ∉ S.blks (.mk k n t sa sc s A c l) → w4.heap[q]? = wr.heap[q]? := fun q hq hne hnx => by
    rw [ebl, List.mem_append, not_or] at hnx
    rw [hch4.block q (by omega) hnx.2, hch3.block q (by simp; omega) hnx.1, Below.heap_setCell _ _ _ _ hne, hb1.block q hq, Below.heap_setCell _ _ _ _ hne, Below.heap_setCell _ _ _ _ hne]
  have hcb : ∀ q, w4.cell? ⟨b, q, none⟩ = (w1.setCell ⟨b, o + j * 5 + 2, none⟩ (.string (markB (Q + 2)))).cell? ⟨b, q, none⟩ := fun q => by
    rw [World.cell?_of_block (a := ⟨b, q, none⟩) (hch4.block b (by omega) hbx.2), World.cell?_of_block (a := ⟨b, q, none⟩) (hch3.block b (by simp; omega) hbx.1)]
  have hc1 : ∀ q, w1.cell? ⟨b, q, none⟩ = ((wr.setCell ⟨b, o + j * 5, none⟩ (.int .i64 Q)).setCell ⟨b, o + j * 5 + 1, none⟩ (.int .i64 (Q + 1))).cell? ⟨b, q, none⟩ := fun q => hb1.cell (p := ⟨b, q, none⟩) hbw
  have d2 : w1.cell? ⟨b, o + j * 5 + 2, none⟩ = some (.string t) := by rw [hc1, icell_ne _ _ _ _ _ (by omega), icell_ne _ _ _ _ _ (by omega)]; exact c2
  have hsz := markB_size (Q + 2) hQ
  have hs4 : IOwn lo hi w4 sa sc (markI s (Q + 3)) := hs3.keep fun q hq => hch4.block q (by
    rw [iblk_mark] at hq
    have := ho.mid.inn.blk_lt q (by rw [ebl]; simp [hq])
    omega) (by rw [iblk_mark] at hq; exact (ho.mid.itm_).2 q hq)
  have hown : S.Own lo hi w4 (S.markS (.mk k n t sa sc s A c l) Q) := by
    simp only [S.markS]
    refine S.Own.of_itm hi4 hs4 (fun q hq hq2 => ?_) (by omega)
    rw [iblk_mark] at hq
    have e2 : S.blks (S.itm A c (S.markSL l (Q + 3 + s.length))) = S.blks (S.itm A c l) := by
      simp only [S.itm, S.blks, S.blksL_markS, iblk]
      congr 2
      cases l <;> rfl
    rw [e2] at hq2
    exact (ho.mid.itm_).2 q hq hq2
  refine ⟨hr.upd hpre (fun q h0 h1 h2 => ?_) ?_ ?_ ?_ rfl ?_ rfl rfl ?_ rfl, ho.put (fun q hq => ?_) hown (S.blks_markS _ Q), fun q => ?_, ?_⟩
  · rw [hcb, icell_ne _ _ _ _ _ h2, hc1, icell_ne _ _ _ _ _ h1, icell_ne _ _ _ _ _ h0]
  · rw [hcb, icell_ne _ _ _ _ _ (by omega), hc1, icell_ne _ _ _ _ _ (by omega), icell_eq c0]; rfl
  · rw [hcb, icell_ne _ _ _ _ _ (by omega), hc1, icell_eq (v := .int .i64 n) (by rw [icell_ne _ _ _ _ _ (by omega)]; exact c1)]; rfl
  · rw [hcb, icell_eq d2]; rfl
  · simp only [S.markS, S.l, S.markSL_length]
  · simp only [S.markS, S.s, markI_length]
  · have h1 : q ∈ S.blksL (pre ++ (S.mk k n t sa sc s A c l) :: suf) := by simp only [S.blksL_append, S.blksL, List.mem_append]; rcases hq with h | h <;> simp [h]
    have h2 := ho.inn.blk_lt q h1
    exact hh q (by omega) (fun e => hbn (by rw [← e]; exact h1)) (ho.mid_far q hq)
  · rw [World.frozen?_of_block (a := ⟨b, q, none⟩) (hch4.block b (by omega) hbx.2), World.frozen?_of_block (a := ⟨b, q, none⟩) (hch3.block b (by simp; omega) hbx.1), World.frozen?_setCell, hb1.frozen (p := ⟨b, q, none⟩) hbw, World.frozen?_setCell, World.frozen?_setCell]
    exact hfr q
  · refine ⟨?_, ?_, ?_, by omega, fun q hq hn => ?_⟩
    · exact hch4.os.trans (hch3.os.trans hb1.os)
    · exact hch4.tape.trans (hch3.tape.trans hb1.tape)
    · exact hch4.output.trans (hch3.output.trans hb1.output)
    · rw [List.mem_cons, not_or] at hn
      exact hh q hq hn.1 fun h => hn.2 (hmx q h)

end Go.Proofs.Ytnkdfphbglcnmaa

namespace Go.Proofs.Ytnkdfphbglcnmaa
open Go.RowKit

theorem markSL_get (l : List S) (j : Nat) (h : j < l.length) : ∀ q, (S.markSL l q)[j]? = some (S.markS l[j] (q + S.wtL (l.take j))) := by
  induction l generalizing j with
  | nil => simp at h
  | cons d r ih =>
    intro q
    cases j with
    | zero => simp [S.markSL, S.wtL]
    | succ j =>
      simp at h
      simp only [S.markSL, List.getElem?_cons_succ, List.getElem_cons_succ, List.take_succ_cons, S.wtL]
      rw [ih j h]
      congr 2
      omega

namespace S
/-- The marks of one object that is given by value. -/
def marked (d : S) (q : Int) : S := .mk d.k d.n d.t d.sa d.sc (markI d.s q) d.A d.c (markSL d.l (q + d.s.length))
end S

end Go.Proofs.Ytnkdfphbglcnmaa
