/-
  The laws' own functions on syntax objects: marking.
-/
import Derived.Test.YtnldlbglgalbaabGreatSBase
import Derived.Test.YtnldlbglgalbaabGreatMarks
import Derived.Test.YtnldlbglgalbaabGreatSTrees
import Derived.Deep.RegionHeld3
namespace Go.Proofs.YtnldlbglgalbaabGreat
open Go.RowKit
namespace S
mutual
/-- How many marks a node takes. -/
def wt : S → Nat | .mk _ _ _ _ _ s _ _ l => 3 + (s.length + wtL l)
def wtL : List S → Nat | [] => 0 | d :: r => wt d + wtL r
end
mutual
/-- The marked object. -/
def markS : S → Int → S | .mk _ _ _ sa sc s A c l, q => .mk q (q + 1) (markB (q + 2)) sa sc (markI s (q + 3)) A c (markSL l (q + 3 + s.length))
def markSL : List S → Int → List S | [], _ => [] | d :: r, q => markS d q :: markSL r (q + wt d)
end
theorem wtL_append (a b : List S) : wtL (a ++ b) = wtL a + wtL b := by
  induction a with
  | nil => simp [wtL]
  | cons d r ih => simp [wtL, ih]; omega
theorem wt_eq (d : S) : d.wt = 3 + (d.s.length + wtL d.l) := by cases d; rfl
theorem markSL_length (l : List S) : ∀ q, (markSL l q).length = l.length := by
  induction l with
  | nil => intro q; rfl
  | cons d r ih => intro q; simp [markSL, ih]
theorem markSL_append (a b : List S) : ∀ q, markSL (a ++ b) q = markSL a q ++ markSL b (q + wtL a) := by
  induction a with
  | nil => intro q; simp [markSL, wtL]
  | cons d r ih => intro q; simp [markSL, wtL, ih]; congr 1; omega
theorem blks_markS (d : S) : ∀ q, blks (markS d q) = blks d := by
  induction d using ind with
  | h d ih =>
    cases d with
    | mk k n t sa sc s A c l =>
      intro q
      have key : ∀ l' : List S, (∀ x ∈ l', x ∈ l) → ∀ q, blksL (markSL l' q) = blksL l' := by
        intro l'
        induction l' with
        | nil => intro _ q; rfl
        | cons x r ih2 =>
          intro hs q
          simp only [markSL, blksL]
          rw [ih x (hs x (by simp)), ih2 fun y hy => hs y (by simp [hy])]
      simp only [markS, blks, key l (fun _ h => h), iblk_mark]
      congr 2
      cases l <;> rfl
theorem blksL_markS (l : List S) : ∀ q, blksL (markSL l q) = blksL l := by
  induction l with
  | nil => intro q; rfl
  | cons x r ih => intro q; simp only [markSL, blksL, blks_markS, ih]

/-- The items alone. -/
def itm (A : Option Addr) (c : Nat) (l : List S) : S := .mk 0 0 ⟨#[]⟩ none 0 [] A c l
theorem blks_itm (k n : Int) (t : ByteArray) (sa : Option Addr) (sc : Nat) (s : List Int) (A : Option Addr) (c : Nat) (l : List S) : blks (.mk k n t sa sc s A c l) = iblk sa s ++ blks (itm A c l) := by simp [itm, blks, iblk]
theorem Own.itm_ {lo hi : Nat} {w : World} {k n : Int} {t : ByteArray} {sa : Option Addr} {sc : Nat} {s : List Int} {A : Option Addr} {c : Nat} {l : List S} (h : Own lo hi w (.mk k n t sa sc s A c l)) : Own lo hi w (itm A c l) ∧ ∀ b ∈ iblk sa s, b ∉ blks (itm A c l) := by
  have e := blks_itm k n t sa sc s A c l
  have hnd := h.nd
  rw [e] at hnd
  obtain ⟨_, h2, h3⟩ := List.nodup_append.1 hnd
  refine ⟨⟨⟨⟨h.inn.1.1, h.inn.1.2.1, Nat.zero_le _⟩, IIn.nil_ (by omega) (fun _ => rfl), h.inn.2.2.1, h.inn.2.2.2⟩, fun b hb => h.lo_ b (by rw [e]; simp [hb]), h2, fun b hb => h.fr b (by rw [e]; simp [hb])⟩, fun b hb hb2 => h3 b hb b hb2 rfl⟩
theorem Own.of_itm {lo hi : Nat} {w : World} {k n : Int} {t : ByteArray} {sa : Option Addr} {sc : Nat} {s : List Int} {A : Option Addr} {c : Nat} {l : List S} (h : Own lo hi w (itm A c l)) (hs : IOwn lo hi w sa sc s) (hd : ∀ b ∈ iblk sa s, b ∉ blks (itm A c l)) (ht : t.size ≤ 9223372036854775807) : Own lo hi w (.mk k n t sa sc s A c l) := by
  have e := blks_itm k n t sa sc s A c l
  refine ⟨⟨⟨h.inn.1.1, h.inn.1.2.1, ht⟩, hs.inn, h.inn.2.2.1, h.inn.2.2.2⟩, fun b hb => ?_, ?_, fun b hb o => ?_⟩
  · rw [e, List.mem_append] at hb
    rcases hb with hb | hb
    · exact hs.lo_ b hb
    · exact h.lo_ b hb
  · rw [e]
    exact List.nodup_append.2 ⟨iblk_nodup _ _, h.nd, fun a ha b hb' e => hd a ha (by rw [e]; exact hb')⟩
  · rw [e, List.mem_append] at hb
    rcases hb with hb | hb
    · exact hs.fr b hb o
    · exact h.fr b hb o

/-- The row at ⟨b, o⟩ bears these syntax objects. -/
def RowIs (w : World) (b o : Nat) (ds : List S) : Prop := ∀ i d, ds[i]? = some d → w.cell? ⟨b, o + i * 5, none⟩ = some (.int .i64 d.k) ∧ w.cell? ⟨b, o + i * 5 + 1, none⟩ = some (.int .i64 d.n) ∧ w.cell? ⟨b, o + i * 5 + 2, none⟩ = some (.string d.t) ∧
      w.cell? ⟨b, o + i * 5 + 3, none⟩ = some (.slice d.sa d.s.length d.sc) ∧ w.cell? ⟨b, o + i * 5 + 4, none⟩ = some (.slice d.A d.l.length d.c)
theorem RowIs.of_cells {w : World} {b o : Nat} {ds : List S} (h : ∀ (j : Nat) (u : Value), (cellsL ds)[j]? = some u → w.cell? ⟨b, o + j, none⟩ = some u) : RowIs w b o ds := by
  intro i d hi
  have g := fun j (hj : j < 5) => cellsL_get (ds := ds) hi j hj
  refine ⟨?_, ?_, ?_, ?_, ?_⟩
  · have := h (5 * i + 0) _ (by rw [g 0 (by omega)]; rfl)
    rwa [show o + (5 * i + 0) = o + i * 5 by omega] at this
  · have := h (5 * i + 1) _ (by rw [g 1 (by omega)]; rfl)
    rwa [show o + (5 * i + 1) = o + i * 5 + 1 by omega] at this
  · have := h (5 * i + 2) _ (by rw [g 2 (by omega)]; rfl)
    rwa [show o + (5 * i + 2) = o + i * 5 + 2 by omega] at this
  · have := h (5 * i + 3) _ (by rw [g 3 (by omega)]; rfl)
    rwa [show o + (5 * i + 3) = o + i * 5 + 3 by omega] at this
  · have := h (5 * i + 4) _ (by rw [g 4 (by omega)]; rfl)
    rwa [show o + (5 * i + 4) = o + i * 5 + 4 by omega] at this
theorem RowIs.cells {w : World} {b o : Nat} {ds : List S} (h : RowIs w b o ds) : ∀ (j : Nat) (u : Value), (cellsL ds)[j]? = some u → w.cell? ⟨b, o + j, none⟩ = some u := by
  intro j u hu
  have hj : j < 5 * ds.length := by rw [← cellsL_length]; exact (List.getElem?_eq_some_iff.1 hu).1
  have hi : ds[j / 5]? = some ds[j / 5] := List.getElem?_eq_getElem (by omega)
  have g := cellsL_get (ds := ds) hi (j % 5) (by omega)
  rw [show 5 * (j / 5) + j % 5 = j by omega, hu] at g
  obtain ⟨h0, h1, h2, h3, h4⟩ := h _ _ hi
  have e : j % 5 = 0 ∨ j % 5 = 1 ∨ j % 5 = 2 ∨ j % 5 = 3 ∨ j % 5 = 4 := by omega
  rcases e with e | e | e | e | e <;> rw [e] at g <;> simp [S.cells] at g <;> subst g
  · rwa [show o + j = o + j / 5 * 5 by omega]
  · rwa [show o + j = o + j / 5 * 5 + 1 by omega]
  · rwa [show o + j = o + j / 5 * 5 + 2 by omega]
  · rwa [show o + j = o + j / 5 * 5 + 3 by omega]
  · rwa [show o + j = o + j / 5 * 5 + 4 by omega]
theorem RowIs.upd {w w' : World} {b o j : Nat} {pre suf : List S} {x y : S} (h : RowIs w b o (pre ++ x :: suf)) (hj : pre.length = j)
    (hs : ∀ q, q ≠ o + j * 5 → q ≠ o + j * 5 + 1 → q ≠ o + j * 5 + 2 → w'.cell? ⟨b, q, none⟩ = w.cell? ⟨b, q, none⟩)
    (h0 : w'.cell? ⟨b, o + j * 5, none⟩ = some (.int .i64 y.k)) (h1 : w'.cell? ⟨b, o + j * 5 + 1, none⟩ = some (.int .i64 y.n)) (h2 : w'.cell? ⟨b, o + j * 5 + 2, none⟩ = some (.string y.t))
    (hA : y.A = x.A) (hl : y.l.length = x.l.length) (hc : y.c = x.c) (hsa : y.sa = x.sa) (hsl : y.s.length = x.s.length) (hsc : y.sc = x.sc) : RowIs w' b o (pre ++ y :: suf) := by
  intro i d hi
  obtain ⟨_, _, _, hx3, hx4⟩ := h j x (by rw [List.getElem?_append_right (by omega), hj]; simp)
  by_cases e : i = j
  · subst e
    rw [List.getElem?_append_right (by omega), hj] at hi
    simp at hi
    subst hi
    refine ⟨h0, h1, h2, ?_, ?_⟩
    · rw [hs _ (by omega) (by omega) (by omega), hx3, hsa, hsl, hsc]
    · rw [hs _ (by omega) (by omega) (by omega), hx4, hA, hl, hc]
  · have hi' : (pre ++ x :: suf)[i]? = some d := by
      by_cases hlt : i < j
      · rw [List.getElem?_append_left (by omega)] at hi ⊢; exact hi
      · rw [List.getElem?_append_right (by omega)] at hi ⊢
        obtain ⟨q, hq⟩ : ∃ q, i - pre.length = q + 1 := ⟨i - pre.length - 1, by omega⟩
        rw [hq] at hi ⊢
        simpa using hi
    obtain ⟨g0, g1, g2, g3, g4⟩ := h i d hi'
    exact ⟨by rw [hs _ (by omega) (by omega) (by omega)]; exact g0, by rw [hs _ (by omega) (by omega) (by omega)]; exact g1, by rw [hs _ (by omega) (by omega) (by omega)]; exact g2, by rw [hs _ (by omega) (by omega) (by omega)]; exact g3, by rw [hs _ (by omega) (by omega) (by omega)]; exact g4⟩

section
variable {w w' : World} {lo hi : Nat} {x y : S} {pre suf l : List S}
theorem OwnL.mid (h : OwnL lo hi w (pre ++ x :: suf)) : Own lo hi w x := by
  have hb : ∀ b ∈ blks x, b ∈ blksL (pre ++ x :: suf) := fun b hb => by simp [blksL_append, blksL, hb]
  refine ⟨InL_iff.1 h.inn x (by simp), fun b hm => h.lo_ b (hb b hm), ?_, fun b hm => h.fr b (hb b hm)⟩
  have := h.nd
  simp only [blksL_append, blksL] at this
  exact (List.nodup_append.1 (List.nodup_append.1 this).2.1).1
theorem OwnL.mid_far (h : OwnL lo hi w (pre ++ x :: suf)) : ∀ b, b ∈ blksL pre ∨ b ∈ blksL suf → b ∉ blks x := by
  have h1 := h.nd
  simp only [blksL_append, blksL] at h1
  obtain ⟨_, h2, h3⟩ := List.nodup_append.1 h1
  obtain ⟨_, _, h4⟩ := List.nodup_append.1 h2
  intro b hb hx
  rcases hb with hb | hb
  · exact h3 b hb b (by simp [hx]) rfl
  · exact h4 b hx b hb rfl
theorem OwnL.put (h : OwnL lo hi w (pre ++ x :: suf)) (hk : ∀ k, k ∈ blksL pre ∨ k ∈ blksL suf → w'.heap[k]? = w.heap[k]?) (hy : Own lo hi w' y) (hb : blks y = blks x) : OwnL lo hi w' (pre ++ y :: suf) := by
  have e : blksL (pre ++ y :: suf) = blksL (pre ++ x :: suf) := by simp [blksL_append, blksL, hb]
  refine ⟨?_, fun b hm => h.lo_ b (by rwa [e] at hm), by rw [e]; exact h.nd, ?_⟩
  · rw [InL_append]
    refine ⟨InL_iff.2 fun z hz => ?_, hy.inn, InL_iff.2 fun z hz => ?_⟩
    · exact (InL_iff.1 h.inn z (by simp [hz])).keepB fun p hp => hk _ (.inl (blksL_mem.2 ⟨z, hz, hp⟩))
    · exact (InL_iff.1 h.inn z (by simp [hz])).keepB fun p hp => hk _ (.inr (blksL_mem.2 ⟨z, hz, hp⟩))
  · intro b hm o
    simp only [blksL_append, blksL, List.mem_append] at hm
    rcases hm with hm | hm | hm
    · exact (World.frozen?_of_block (a := ⟨b, o, none⟩) (hk b (.inl hm))).trans (h.fr b (by simp [blksL_append, hm]) o)
    · exact hy.fr b hm o
    · exact (World.frozen?_of_block (a := ⟨b, o, none⟩) (hk b (.inr hm))).trans (h.fr b (by simp [blksL_append, blksL, hm]) o)
/-- What is owned, taken apart. -/
theorem Own.parts {A : Option Addr} {c : Nat} (h : Own lo hi w (itm A c l)) (hl : l ≠ []) :
    ∃ b o, A = some ⟨b, o, none⟩ ∧ lo ≤ b ∧ b < hi ∧ b ∉ blksL l ∧ (∀ q, w.frozen? ⟨b, q, none⟩ = false) ∧ RowIs w b o l ∧ OwnL lo hi w l ∧ blks (itm A c l) = b :: blksL l := by
  obtain ⟨b, o, rfl, hb, hc⟩ := h.inn.2.2.1 hl
  have e : blks (itm (some ⟨b, o, none⟩) c l) = b :: blksL l := by
    cases l with
    | nil => exact absurd rfl hl
    | cons _ _ => simp [itm, blks, iblk]
  have hnd := h.nd
  rw [e, List.nodup_cons] at hnd
  exact ⟨b, o, rfl, h.lo_ b (by simp [e]), hb, hnd.1, h.fr b (by simp [e]), RowIs.of_cells hc, ⟨h.inn.2.2.2, fun q hq => h.lo_ q (by simp [e, hq]), hnd.2, fun q hq => h.fr q (by simp [e, hq])⟩, e⟩
theorem Own.join {b o c : Nat} (h : OwnL lo hi w l) (hc : l.length ≤ c ∧ c ≤ maxLen) (hlo : lo ≤ b) (hhi : b < hi) (hg : b ∉ blksL l)
    (hf : ∀ q, w.frozen? ⟨b, q, none⟩ = false) (hr : RowIs w b o l) : Own lo hi w (itm (some ⟨b, o, none⟩) c l) := by
  refine ⟨⟨⟨hc.1, hc.2, Nat.zero_le _⟩, IIn.nil_ (by omega) (fun _ => rfl), fun _ => ⟨b, o, rfl, hhi, hr.cells⟩, h.inn⟩, ?_, ?_, ?_⟩
  · intro q hm
    simp only [itm, blks, iblk, List.mem_append] at hm
    rcases hm with hm | hm | hm
    · simp at hm
    · split at hm
      · simp at hm
      · simp at hm; omega
    · exact h.lo_ q hm
  · cases l with
    | nil => simp [itm, blks, iblk, blksL]
    | cons x r => simpa [itm, blks, iblk] using ⟨hg, h.nd⟩
  · intro q hm r
    simp only [itm, blks, iblk, List.mem_append] at hm
    rcases hm with hm | hm | hm
    · simp at hm
    · split at hm
      · simp at hm
      · simp at hm; subst hm; exact hf r
    · exact h.fr q hm r
end
end S

def SMarkOk (m : Nat) : Prop := ∀ (A : Option Addr) (c : Nat) (l : List S) (lo hi : Nat) (w : World) (q : Int), S.sizeL l ≤ m → m ≤ 2000000 → S.bulkL l ≤ 2000000 → 0 ≤ q → q + S.wtL l ≤ 100000000 → (S.itm A c l).Own lo hi w → hi ≤ w.heap.size →
    Calls Tryz.prog 20 #[.slice A l.length c, .int .i64 q] w fun e w' => e = .returned (.int .i64 (q + S.wtL l)) ∧ (S.itm A c (S.markSL l q)).Own lo hi w' ∧ Chg (S.blks (S.itm A c l)) w w'

/-- What a round leaves: W2 behind the three stores, w3 behind the scopes, w4 behind the items. -/
theorem smark_round {wr w1 w3 w4 : World} {b o j lo hi : Nat} {pre suf : List S} {k n : Int} {t : ByteArray} {sa : Option Addr} {sc : Nat} {s : List Int} {A : Option Addr} {c : Nat} {l : List S} {Q : Int} (hbw : b < wr.heap.size) (hhi : hi ≤ wr.heap.size)
    (hr : S.RowIs wr b o (pre ++ (S.mk k n t sa sc s A c l) :: suf)) (ho : S.OwnL lo hi wr (pre ++ (S.mk k n t sa sc s A c l) :: suf)) (hbn : b ∉ S.blksL (pre ++ (S.mk k n t sa sc s A c l) :: suf)) (hpre : pre.length = j)
    (hfr : ∀ q, wr.frozen? ⟨b, q, none⟩ = false) (hQ : Q + 2 ≤ 9223372036854775807)
    (hb1 : Below wr.heap.size ((wr.setCell ⟨b, o + j * 5, none⟩ (.int .i64 Q)).setCell ⟨b, o + j * 5 + 1, none⟩ (.int .i64 (Q + 1))) w1)
    (hs3 : IOwn lo hi w3 sa sc (markI s (Q + 3))) (hch3 : Chg (iblk sa s) (w1.setCell ⟨b, o + j * 5 + 2, none⟩ (.string (markB (Q + 2)))) w3)
    (hi4 : (S.itm A c (S.markSL l (Q + 3 + s.length))).Own lo hi w4) (hch4 : Chg (S.blks (S.itm A c l)) w3 w4) :
    S.RowIs w4 b o (pre ++ S.markS (.mk k n t sa sc s A c l) Q :: suf) ∧ S.OwnL lo hi w4 (pre ++ S.markS (.mk k n t sa sc s A c l) Q :: suf) ∧ (∀ q, w4.frozen? ⟨b, q, none⟩ = false) ∧ Chg (b :: S.blksL (pre ++ (S.mk k n t sa sc s A c l) :: suf)) wr w4 := by
  have hx : (pre ++ (S.mk k n t sa sc s A c l) :: suf)[j]? = some (S.mk k n t sa sc s A c l) := by rw [List.getElem?_append_right (by omega), hpre]; simp
  obtain ⟨c0, c1, c2, c3, c4⟩ := hr j _ hx
  have hmx : ∀ q, q ∈ S.blks (.mk k n t sa sc s A c l) → q ∈ S.blksL (pre ++ (S.mk k n t sa sc s A c l) :: suf) := fun q hq => by simp [S.blksL_append, S.blksL, hq]
  have ebl := S.blks_itm k n t sa sc s A c l
  have hbx : b ∉ S.blks (.mk k n t sa sc s A c l) := fun h => hbn (hmx b h)
  rw [ebl, List.mem_append, not_or] at hbx
  have hz := hb1.size
  simp only [World.size_setCell] at hz
  have z3 := hch3.size
  simp only [World.size_setCell] at z3
  have z4 := hch4.size
  have hh : ∀ q, q < wr.heap.size → q ≠ b → q ∉ S.blks (.mk k n t sa sc s A c l) → w4.heap[q]? = wr.heap[q]? := fun q hq hne hnx => by
    rw [ebl, List.mem_append, not_or] at hnx
    rw [hch4.block q (by omega) hnx.2, hch3.block q (by simp; omega) hnx.1, Below.heap_setCell _ _ _ _ hne, hb1.block q hq, Below.heap_setCell _ _ _ _ hne, Below.heap_setCell _ _ _ _ hne]
  have hcb : ∀ q, w4.cell? ⟨b, q, none⟩ = (w1.setCell ⟨b, o + j * 5 + 2, none⟩ (.string (markB (Q + 2)))).cell? ⟨b, q, none⟩ := fun q => by
    rw [World.cell?_of_block (a := ⟨b, q, none⟩) (hch4.block b (by omega) hbx.2), World.cell?_of_block (a := ⟨b, q, none⟩) (hch3.block b (by simp; omega) hbx.1)]
  have hc1 : ∀ q, w1.cell? ⟨b, q, none⟩ = ((wr.setCell ⟨b, o + j * 5, none⟩ (.int .i64 Q)).setCell ⟨b, o + j * 5 + 1, none⟩ (.int .i64 (Q + 1))).cell? ⟨b, q, none⟩ := fun q => hb1.cell (p := ⟨b, q, none⟩) hbw
  have d2 : w1.cell? ⟨b, o + j * 5 + 2, none⟩ = some (.string t) := by rw [hc1, icell_ne _ _ _ _ _ (by omega), icell_ne _ _ _ _ _ (by omega)]; exact c2
  have hsz := markB_size (Q + 2) hQ
  have hs4 : IOwn lo hi w4 sa sc (markI s (Q + 3)) := hs3.keep fun q hq => hch4.block q (by
    rw [iblk_mark] at hq
    have := ho.mid.inn.blk_lt q (by rw [ebl]; simp [hq])
    omega) (by rw [iblk_mark] at hq; exact (ho.mid.itm_).2 q hq)
  have hown : S.Own lo hi w4 (S.markS (.mk k n t sa sc s A c l) Q) := by
    simp only [S.markS]
    refine S.Own.of_itm hi4 hs4 (fun q hq hq2 => ?_) (by omega)
    rw [iblk_mark] at hq
    have e2 : S.blks (S.itm A c (S.markSL l (Q + 3 + s.length))) = S.blks (S.itm A c l) := by
      simp only [S.itm, S.blks, S.blksL_markS, iblk]
      congr 2
      cases l <;> rfl
    rw [e2] at hq2
    exact (ho.mid.itm_).2 q hq hq2
  refine ⟨hr.upd hpre (fun q h0 h1 h2 => ?_) ?_ ?_ ?_ rfl ?_ rfl rfl ?_ rfl, ho.put (fun q hq => ?_) hown (S.blks_markS _ Q), fun q => ?_, ?_⟩
  · rw [hcb, icell_ne _ _ _ _ _ h2, hc1, icell_ne _ _ _ _ _ h1, icell_ne _ _ _ _ _ h0]
  · rw [hcb, icell_ne _ _ _ _ _ (by omega), hc1, icell_ne _ _ _ _ _ (by omega), icell_eq c0]; rfl
  · rw [hcb, icell_ne _ _ _ _ _ (by omega), hc1, icell_eq (v := .int .i64 n) (by rw [icell_ne _ _ _ _ _ (by omega)]; exact c1)]; rfl
  · rw [hcb, icell_eq d2]; rfl
  · simp only [S.markS, S.l, S.markSL_length]
  · simp only [S.markS, S.s, markI_length]
  · have h1 : q ∈ S.blksL (pre ++ (S.mk k n t sa sc s A c l) :: suf) := by simp only [S.blksL_append, S.blksL, List.mem_append]; rcases hq with h | h <;> simp [h]
    have h2 := ho.inn.blk_lt q h1
    exact hh q (by omega) (fun e => hbn (by rw [← e]; exact h1)) (ho.mid_far q hq)
  · rw [World.frozen?_of_block (a := ⟨b, q, none⟩) (hch4.block b (by omega) hbx.2), World.frozen?_of_block (a := ⟨b, q, none⟩) (hch3.block b (by simp; omega) hbx.1), World.frozen?_setCell, hb1.frozen (p := ⟨b, q, none⟩) hbw, World.frozen?_setCell, World.frozen?_setCell]
    exact hfr q
  · refine ⟨?_, ?_, ?_, by omega, fun q hq hn => ?_⟩
    · exact hch4.os.trans (hch3.os.trans hb1.os)
    · exact hch4.tape.trans (hch3.tape.trans hb1.tape)
    · exact hch4.output.trans (hch3.output.trans hb1.output)
    · rw [List.mem_cons, not_or] at hn
      exact hh q hq hn.1 fun h => hn.2 (hmx q h)

set_option maxRecDepth 100000 in
set_option maxHeartbeats 2000000 in
theorem smark_step (m : Nat) (ih : ∀ m', m' < m → SMarkOk m') : SMarkOk m := by
  intro A c l lo hi w q hm hm2 hbk hq0 hq hown hhi
  have hcap : l.length ≤ c ∧ c ≤ 9223372036854775807 := ⟨hown.inn.1.1, hown.inn.1.2.1⟩
  by_cases hl : l = []
  · subst hl
    go_enter Tryz.func20, Tryz.ntmps20
    go_wp2_with fail
    go_loopw [1, 5] (fun v i wr => v = .int .i64 q ∧ i = .int .i64 0 ∧ wr = w) (fun _ _ _ => 0)
    case atStart => exact ⟨rfl, rfl, rfl⟩
    case round =>
      obtain ⟨rfl, rfl, rfl⟩ := hrel
      go_wp2_with fail
      go_ret
      exact ⟨ret_int (by simp [S.wtL]), hown, Chg.refl _ _⟩
  · obtain ⟨b, o, rfl, hblo, hbhi, hbn, hfz, hrow, hol, hbl⟩ := hown.parts hl
    have Hbl := Lib.hid hbl
    clear hbl
    go_enter Tryz.func20, Tryz.ntmps20
    go_wp2_with fail
    go_loopw [1, 5] (fun v i wr => ∃ j : Nat, j ≤ l.length ∧ i = .int .i64 j ∧ v = .int .i64 (q + (S.wtL (l.take j) : Int)) ∧ S.RowIs wr b o (S.markSL (l.take j) q ++ l.drop j) ∧ S.OwnL lo hi wr (S.markSL (l.take j) q ++ l.drop j) ∧ Hid (∀ q, wr.frozen? ⟨b, q, none⟩ = false) ∧ Chg (b :: S.blksL l) w wr) (fun _ i _ => l.length - (intOf i).toNat)
    case atStart => exact ⟨0, Nat.zero_le _, rfl, by simp [S.wtL], by simpa [S.markSL] using hrow, by simpa [S.markSL] using hol, hfz, Chg.refl _ _⟩
    case round =>
      obtain ⟨j, hj, rfl, rfl, hr, ho, Hfr, hch⟩ := hrel
      have hs2 := hch.size
      by_cases hlt : j < l.length
      · obtain ⟨x, hxe⟩ : ∃ x, l[j] = x := ⟨_, rfl⟩
        have hdrop : l.drop j = x :: l.drop (j + 1) := by rw [List.drop_eq_getElem_cons hlt, hxe]
        have htake : l.take (j + 1) = l.take j ++ [x] := by rw [List.take_succ_eq_append_getElem hlt, hxe]
        have hmem : x ∈ l := by rw [← hxe]; exact List.getElem_mem hlt
        have hsz := S.sizeL_mem hmem
        have hbk1 := sbulk_mem hmem
        have hwt : S.wtL (l.take j) + x.wt ≤ S.wtL l := by
          have h1 := S.wtL_append (l.take (j + 1)) (l.drop (j + 1))
          rw [List.take_append_drop, htake, S.wtL_append] at h1
          simp only [S.wtL] at h1
          omega
        obtain ⟨k, n, t, sa, sc, s, A', c', l'⟩ := x
        have HD := Lib.hid hdrop
        have HT := Lib.hid htake
        rw [hdrop] at hr ho
        clear hxe hdrop htake hmem
        simp only [S.wt, S.bulk, S.size] at hwt hbk1 hsz
        have hpre : (S.markSL (l.take j) q).length = j := by rw [S.markSL_length, List.length_take]; omega
        have hx : (S.markSL (l.take j) q ++ (S.mk k n t sa sc s A' c' l') :: l.drop (j + 1))[j]? = some (S.mk k n t sa sc s A' c' l') := by rw [List.getElem?_append_right (by omega), hpre]; simp
        obtain ⟨c0, c1, c2, c3, c4⟩ := hr j _ hx
        simp only [S.k, S.n, S.t, S.sa, S.sc, S.s, S.A, S.c] at c0 c1 c2 c3 c4
        have el : (S.mk k n t sa sc s A' c' l').l = l' := rfl
        rw [el] at c4
        have hoj := ho.mid
        have f0 := Hfr.out (o + j * 5)
        have f1 := Hfr.out (o + j * 5 + 1)
        have f2 := Hfr.out (o + j * 5 + 2)
        have Hp := Lib.hid hpre
        have Hfz := Lib.hid hfz
        clear hx hpre hfz
        go_wp2_with fail
        refine (markText_any _ _ (by omega)).mono ?_
        rintro e w1 ⟨rfl, hb1⟩
        have hbw : b < wr.heap.size := by omega
        have hz := hb1.size
        simp only [World.size_setCell] at hz hb1
        have hc : ∀ r, w1.cell? ⟨b, r, none⟩ = ((wr.setCell ⟨b, o + j * 5, none⟩ (.int .i64 (q + (S.wtL (l.take j) : Int)))).setCell ⟨b, o + j * 5 + 1, none⟩ (.int .i64 (q + (S.wtL (l.take j) : Int) + 1))).cell? ⟨b, r, none⟩ := fun r => hb1.cell (p := ⟨b, r, none⟩) hbw
        have c2' : w1.cell? ⟨b, o + j * 5 + 2, none⟩ = some (.string t) := by rw [hc, icell_ne _ _ _ _ _ (by omega), icell_ne _ _ _ _ _ (by omega)]; exact c2
        have c3' : w1.cell? ⟨b, o + j * 5 + 3, none⟩ = some (.slice sa s.length sc) := by rw [hc, icell_ne _ _ _ _ _ (by omega), icell_ne _ _ _ _ _ (by omega)]; exact c3
        have c4' : w1.cell? ⟨b, o + j * 5 + 4, none⟩ = some (.slice A' l'.length c') := by rw [hc, icell_ne _ _ _ _ _ (by omega), icell_ne _ _ _ _ _ (by omega)]; exact c4
        have f2' : w1.frozen? ⟨b, o + j * 5 + 2, none⟩ = false := by rw [hb1.frozen (p := ⟨b, o + j * 5 + 2, none⟩) hbw, World.frozen?_setCell, World.frozen?_setCell]; exact f2
        have hbn' : b ∉ S.blksL (S.markSL (l.take j) q ++ (S.mk k n t sa sc s A' c' l') :: l.drop (j + 1)) := by
          rw [← HD.out, S.blksL_append, S.blksL_markS, ← S.blksL_append, List.take_append_drop]; exact hbn
        have hbx : ∀ r, r ∈ S.blks (S.mk k n t sa sc s A' c' l') → r ≠ b := fun r hr2 e => hbn' (by subst e; simp [S.blksL_append, S.blksL, hr2])
        have hpq : S.Own lo hi (w1.setCell ⟨b, o + j * 5 + 2, none⟩ (.string (markB (q + (S.wtL (l.take j) : Int) + 1 + 1)))) (S.mk k n t sa sc s A' c' l') :=
          hoj.keepB fun r hr2 => by
            have h1 := hoj.inn.blk_lt r hr2
            have h2 := hbx r hr2
            rw [Below.heap_setCell _ _ _ _ h2, hb1.block r (by omega), Below.heap_setCell _ _ _ _ h2, Below.heap_setCell _ _ _ _ h2]
        have Hc := Lib.hid hc
        clear hc c0 c1 c2 c3 c4
        go_wp2_with fail
        have hqi := hpq.itm_
        have hqs := hpq.scopes
        simp only [S.sa, S.sc, S.s] at hqs
        refine (markI_any sa sc s lo hi _ _ (by omega) (by omega) (by omega) hqs).mono ?_
        rintro e w3 ⟨rfl, hs3, hch3⟩
        have z3 := hch3.size
        simp only [World.size_setCell] at z3
        have hbi : b ∉ iblk sa s := fun h => hbx b (S.blks_scopes (S.mk k n t sa sc s A' c' l') b h) rfl
        have c4'' : w3.cell? ⟨b, o + j * 5 + 4, none⟩ = some (.slice A' l'.length c') := (World.cell?_of_block (a := ⟨b, o + j * 5 + 4, none⟩) (hch3.block b (by simp; omega) hbi)).trans ((icell_ne _ _ _ _ _ (by omega)).trans c4')
        have hi3 : (S.itm A' c' l').Own lo hi w3 := hqi.1.keepB fun r hr2 => hch3.block r (by have := hqi.1.inn.blk_lt r hr2; simp; omega) (fun h => hqi.2 r h hr2)
        have Hch3 := Lib.hid hch3
        have Hs3 := Lib.hid hs3
        clear hch3 hs3 hpq c2' c3' c4' f2'
        go_wp2_with fail
        refine (ih (S.sizeL l') (by omega) A' c' l' lo hi _ _ (Nat.le_refl _) (by omega) (by omega) (by omega) (by omega) hi3 (by omega)).mono ?_
        rintro e w4 ⟨rfl, hi4, hch4⟩
        have e2 : q + (S.wtL (l.take j) : Int) + 1 + 1 = q + (S.wtL (l.take j) : Int) + 2 := by omega
        have e3 : q + (S.wtL (l.take j) : Int) + 1 + 1 + 1 = q + (S.wtL (l.take j) : Int) + 3 := by omega
        have hch3 := Hch3.out
        have hs3 := Hs3.out
        rw [e2] at hch3
        rw [e3] at hs3 hi4
        have hmr := smark_round hbw (by omega) hr ho hbn' Hp.out Hfr.out (by omega) hb1 hs3 hch3 hi4 hch4
        have Hmr := Lib.hid hmr
        clear hmr e2 e3 hch3 hs3 hi4 hch4 hbn' hi3
        go_wp2_with fail
        obtain ⟨m1, m2, m3, m4⟩ := Hmr.out
        have eM : S.markSL (l.take (j + 1)) q ++ l.drop (j + 1) = S.markSL (l.take j) q ++ S.markS (S.mk k n t sa sc s A' c' l') (q + (S.wtL (l.take j) : Int)) :: l.drop (j + 1) := by rw [HT.out, S.markSL_append]; simp [S.markSL]
        have eW : (S.wtL (l.take (j + 1)) : Int) = (S.wtL (l.take j) : Int) + (3 + (s.length + S.wtL l') : Nat) := by rw [HT.out, S.wtL_append]; simp only [S.wtL, S.wt]; omega
        refine ⟨⟨j + 1, by omega, by go_num, by rw [eW]; congr 1; omega, by rw [eM]; exact m1, by rw [eM]; exact m2, m3, hch.trans (m4.mono ?_)⟩, by simp [intOf]; omega⟩
        intro y hy
        rwa [← HD.out, S.blksL_append, S.blksL_markS, ← S.blksL_append, List.take_append_drop] at hy
      · have hj' : j = l.length := by omega
        subst hj'
        have Hch := Lib.hid hch
        go_wp2_with fail
        go_ret
        rw [List.take_length] at hr ho
        simp only [List.drop_length, List.append_nil] at hr ho
        refine ⟨ret_int (by rw [List.take_length]), S.Own.join ho (by rw [S.markSL_length]; exact hcap) hblo hbhi (by rw [S.blksL_markS]; exact hbn) Hfr.out hr, by rw [Hbl.out]; exact Hch.out⟩
theorem smark_any (m : Nat) : SMarkOk m := by
  induction m using Nat.strongRecOn with
  | _ m ih => exact smark_step m ih
end Go.Proofs.YtnldlbglgalbaabGreat

namespace Go.Proofs.YtnldlbglgalbaabGreat
open Go.RowKit

def SHeldOk (m : Nat) : Prop := ∀ (A : Option Addr) (c : Nat) (l : List S) (B : Nat) (w : World) (q : Int), S.sizeL l ≤ m → m ≤ 2000000 → S.bulkL l ≤ 2000000 → 0 ≤ q → q + S.wtL l ≤ 100000000 → (S.itm A c (S.markSL l q)).In w B → B ≤ w.heap.size →
    Calls Tryz.prog 47 #[.slice A l.length c, .int .i64 q] w fun e w' => e = .returned (.int .i64 (q + S.wtL l)) ∧ Below w.heap.size w w'

theorem markSL_get (l : List S) (j : Nat) (h : j < l.length) : ∀ q, (S.markSL l q)[j]? = some (S.markS l[j] (q + S.wtL (l.take j))) := by
  induction l generalizing j with
  | nil => simp at h
  | cons d r ih =>
    intro q
    cases j with
    | zero => simp [S.markSL, S.wtL]
    | succ j =>
      simp at h
      simp only [S.markSL, List.getElem?_cons_succ, List.getElem_cons_succ, List.take_succ_cons, S.wtL]
      rw [ih j h]
      congr 2
      omega

set_option maxRecDepth 100000 in
set_option maxHeartbeats 1600000 in
theorem sheld_step (m : Nat) (ih : ∀ m', m' < m → SHeldOk m') : SHeldOk m := by
  intro A c l B w q hm hm2 hbk hq0 hq hin hB
  have hcap : l.length ≤ c ∧ c ≤ 9223372036854775807 := by have := hin.1; rw [S.markSL_length] at this; exact ⟨this.1, this.2.1⟩
  go_enter Tryz.func47, Tryz.ntmps47
  go_wp2_with fail
  go_loopw [1, 5] (fun v i wr => ∃ j : Nat, j ≤ l.length ∧ i = .int .i64 j ∧ v = .int .i64 (q + (S.wtL (l.take j) : Int)) ∧ Below w.heap.size w wr) (fun _ i _ => l.length - (intOf i).toNat)
  case atStart => exact ⟨0, Nat.zero_le _, rfl, by simp [S.wtL], Below.refl _ _⟩
  case round =>
    obtain ⟨j, hj, rfl, rfl, hb⟩ := hrel
    have hs2 := hb.size
    by_cases hlt : j < l.length
    · have hg := markSL_get l j hlt q
      obtain ⟨x, hxe⟩ : ∃ x, l[j] = x := ⟨_, rfl⟩
      rw [hxe] at hg
      have hdrop : l.drop j = x :: l.drop (j + 1) := by rw [List.drop_eq_getElem_cons hlt, hxe]
      have htake : l.take (j + 1) = l.take j ++ [x] := by rw [List.take_succ_eq_append_getElem hlt, hxe]
      have hmem : x ∈ l := by rw [← hxe]; exact List.getElem_mem hlt
      have hsz := S.sizeL_mem hmem
      have hbk1 := sbulk_mem hmem
      have hwt : S.wtL (l.take j) + x.wt ≤ S.wtL l := by
        have h1 := S.wtL_append (l.take (j + 1)) (l.drop (j + 1))
        rw [List.take_append_drop, htake, S.wtL_append] at h1
        simp only [S.wtL] at h1
        omega
      obtain ⟨k, n, t, sa, sc, s, A', c', l'⟩ := x
      have HT := Lib.hid htake
      clear hxe hdrop htake hmem
      simp only [S.wt, S.bulk, S.size] at hwt hbk1 hsz
      obtain ⟨b, o, hA, hblk, c0, c1, c2, c3, c4, hix⟩ := (hin.below (hb.mono hB)).at_ (i := j) hg
      simp only [S.itm, S.A] at hA
      subst hA
      have HI := Lib.hid hix
      simp only [S.markS, S.k, S.n, S.t, S.sa, S.sc, S.s, S.A, S.c] at c0 c1 c2 c3 c4
      have el : (S.mk (q + (S.wtL (l.take j) : Int)) (q + (S.wtL (l.take j) : Int) + 1) (markB (q + (S.wtL (l.take j) : Int) + 2)) sa sc (markI s (q + (S.wtL (l.take j) : Int) + 3)) A' c' (S.markSL l' (q + (S.wtL (l.take j) : Int) + 3 + s.length))).l.length = l'.length := S.markSL_length _ _
      rw [el] at c4
      rw [markI_length] at c3
      rw [show q + (S.wtL (l.take j) : Int) + 2 = q + (S.wtL (l.take j) : Int) + 1 + 1 by omega] at c2
      have q1 : b < wr.heap.size := by omega
      have g1 : (0 : Int) ≤ (j : Int) := by omega
      have g2 : (j : Int) < (l.length : Int) := by omega
      clear hix hg el
      go_wp2_with fail
      go_region_held3 (fun w' => w'.cell? ⟨b, o + j * 5 + 2, none⟩ = some (.string (markB (q + (S.wtL (l.take j) : Int) + 1 + 1)))) (go_keep)
        ((go_at_call 44; refine (markText_any _ _ ?_).mono ?_; omega; rintro e w1 ⟨rfl, hb1⟩; have a2 := (hb1.cell (p := ⟨b, o + j * 5 + 2, none⟩) q1).trans c2))
      have hb1' : Below wr.heap.size wr w1 := below_undrew hb1
      have hb2 : Below w.heap.size w w1 := hb.trans (hb1'.mono (show w.heap.size ≤ wr.heap.size by omega))
      have hz : wr.heap.size ≤ w1.heap.size := hb1.size
      have a3 := (hb1'.cell (p := ⟨b, o + j * 5 + 3, none⟩) q1).trans c3
      have a4 := (hb1'.cell (p := ⟨b, o + j * 5 + 4, none⟩) q1).trans c4
      have hix1 := HI.out.below (w' := w1) (hb1'.mono (show B ≤ wr.heap.size by omega))
      have hsx := hix1.scopes
      simp only [S.markS, S.sa, S.sc, S.s] at hsx
      have hii : (S.itm A' c' (S.markSL l' (q + (S.wtL (l.take j) : Int) + 3 + s.length))).In w1 B := by
        simp only [S.markS] at hix1
        obtain ⟨h1, h2, h3, h4⟩ := hix1
        exact ⟨⟨h1.1, h1.2.1, Nat.zero_le _⟩, IIn.nil_ (by omega) (fun _ => rfl), h3, h4⟩
      have Hb1 := Lib.hid hb1
      have Hii := Lib.hid hii
      clear hb1 hb1' c0 c1 c2 c3 c4 hix1 hii HI
      go_wp2_with fail
      refine (heldI_any sa sc s B _ _ (by omega) (by omega) (by omega) (by rw [show q + (S.wtL (l.take j) : Int) + 1 + 1 + 1 = q + (S.wtL (l.take j) : Int) + 3 by omega]; exact hsx)).mono ?_
      rintro e w2 ⟨rfl, hw⟩
      obtain rfl := hw.symm
      have hpos1 : ¬ (q + (S.wtL (l.take j) : Int) + 1 + 1 + 1 + (s.length : Int) < 0) := by omega
      go_wp2_with fail
      refine (ih (S.sizeL l') (by omega) A' c' l' B _ _ (Nat.le_refl _) (by omega) (by omega) (by omega) (by omega) (by rw [show q + (S.wtL (l.take j) : Int) + 1 + 1 + 1 + (s.length : Int) = q + (S.wtL (l.take j) : Int) + 3 + (s.length : Int) by omega]; exact Hii.out) (by omega)).mono ?_
      rintro e w3 ⟨rfl, hb3⟩
      have hpos : ¬ (q + (S.wtL (l.take j) : Int) + 1 + 1 + 1 + (s.length : Int) + (S.wtL l' : Int) < 0) := by omega
      go_wp2_with fail
      have eW : (S.wtL (l.take (j + 1)) : Int) = (S.wtL (l.take j) : Int) + (3 + (s.length + S.wtL l') : Nat) := by rw [HT.out, S.wtL_append]; simp only [S.wtL, S.wt]; omega
      refine ⟨⟨j + 1, by omega, by go_num, by rw [eW]; congr 1; omega, hb2.trans (hb3.mono (by omega))⟩, by simp [intOf]; omega⟩
    · have hj' : j = l.length := by omega
      subst hj'
      go_wp2_with fail
      go_ret
      exact ⟨ret_int (by rw [List.take_length]), hb⟩
theorem sheld_any (m : Nat) : SHeldOk m := by
  induction m using Nat.strongRecOn with
  | _ m ih => exact sheld_step m ih

namespace S
/-- The marks of one object that is given by value. -/
def marked (d : S) (q : Int) : S := .mk d.k d.n d.t d.sa d.sc (markI d.s q) d.A d.c (markSL d.l (q + d.s.length))
end S

set_option maxRecDepth 100000 in
set_option maxHeartbeats 1000000 in
theorem markSyn_any (d : S) (lo hi : Nat) (w : World) (q : Int) (hs : d.size ≤ 2000000) (hbk : d.bulk ≤ 2000000) (hq0 : 0 ≤ q) (hq : q ≤ 5000000) (hw : S.wtL d.l ≤ 90000000) (ho : d.Own lo hi w) (hhi : hi ≤ w.heap.size) :
    Calls Tryz.prog 21 #[d.val, .int .i64 q] w fun e w' => e = .returned (.int .i64 (q + d.s.length + S.wtL d.l)) ∧ (d.marked q).Own lo hi w' ∧ Chg d.blks w w' := by
  obtain ⟨k, n, t, sa, sc, s, A, c, l⟩ := d
  have hcap := ho.inn.cap
  simp only [S.l, S.c, S.t] at hcap
  simp only [S.bulk, S.size] at hbk hs
  simp only [S.val, S.k, S.n, S.t, S.sa, S.sc, S.s, S.A, S.l, S.c, S.marked] at *
  have bA : Below w.heap.size w (w.alloc (.cells #[.int .i64 k, .int .i64 n, .string t, .slice sa s.length sc, .slice A l.length c] 43)) := (Below.refl _ _).alloc (Nat.le_refl _) _
  have x0 := S.Box.new w (.mk k n t sa sc s A c l) 43
  have ho1 := ho.below (bA.mono hhi)
  have hqi := ho1.itm_
  have hqs := ho1.scopes
  simp only [S.sa, S.sc, S.s] at hqs
  have ebl := S.blks_itm k n t sa sc s A c l
  have hlt := ho.inn.blk_lt
  rw [ebl] at hlt
  go_enter Tryz.func21, Tryz.ntmps21
  go_wp2_with fail
  refine (markI_any sa sc s lo hi _ _ (by omega) (by omega) (by omega) hqs).mono ?_
  rintro e w1 ⟨rfl, hs1, hch1⟩
  have z1 := hch1.size
  simp only [World.size_alloc] at z1
  obtain ⟨g0, g1, g2, g3, g4⟩ := x0.chg hch1 (by simp) (fun h => by have := hlt _ (by simp only [List.mem_append]; exact .inl h); omega)
  simp only [S.k, S.n, S.t, S.sa, S.sc, S.s, S.A, S.c] at g0 g1 g2 g3 g4
  have el : (S.mk k n t sa sc s A c l).l = l := rfl
  rw [el] at g4
  have hi1 : (S.itm A c l).Own lo hi w1 := hqi.1.keepB fun r hr2 => hch1.block r (by have := hqi.1.inn.blk_lt r hr2; simp; omega) (fun h => hqi.2 r h hr2)
  have Hch1 := Lib.hid hch1
  have Hs1 := Lib.hid hs1
  clear hch1 hs1 x0 hqs
  go_wp2_with fail
  refine (smark_any 2000000 A c l lo hi _ _ (by omega) (by omega) (by omega) (by omega) (by omega) hi1 (by omega)).mono ?_
  rintro e w2 ⟨rfl, hi2, hch2⟩
  have hs2 : IOwn lo hi w2 sa sc (markI s q) := Hs1.out.keep fun r hr => hch2.block r (by
    rw [iblk_mark] at hr
    have := hlt r (by simp [hr])
    omega) (by rw [iblk_mark] at hr; exact hqi.2 r hr)
  have hown : S.Own lo hi w2 (.mk k n t sa sc (markI s q) A c (S.markSL l (q + s.length))) := S.Own.of_itm hi2 hs2 (fun r hr hr2 => by
    rw [iblk_mark] at hr
    have e2 : S.blks (S.itm A c (S.markSL l (q + s.length))) = S.blks (S.itm A c l) := by
      simp only [S.itm, S.blks, S.blksL_markS, iblk]
      congr 2
      cases l <;> rfl
    rw [e2] at hr2
    exact hqi.2 r hr hr2) hcap.2.2
  have hch : Chg (S.blks (.mk k n t sa sc s A c l)) w w2 := (Chg.of_below bA).trans ((Hch1.out.mono (fun r hr => by rw [ebl]; simp [hr])).trans (hch2.mono (fun r hr => by rw [ebl]; simp [hr])))
  have Hown := Lib.hid hown
  have Hch := Lib.hid hch
  clear hown hch hch2 hi2 hs2
  go_wp2_with fail
  go_ret
  exact ⟨rfl, Hown.out, Hch.out⟩

end Go.Proofs.YtnldlbglgalbaabGreat
