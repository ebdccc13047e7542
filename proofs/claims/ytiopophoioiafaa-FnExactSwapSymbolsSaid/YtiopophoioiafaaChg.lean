/-
  Data in memory of the call's own that are written.
-/
import Derived.Test.YtiopophoioiafaaOwn
namespace Go.Proofs.Ytiopophoioiafaa
open Go.RowKit

/-- The blocks of S alone have turned; new ones may have come. -/
structure Chg (S : List Nat) (w w' : World) : Prop where
  os : w'.os = w.os
  tape : w'.tape = w.tape
  output : w'.output = w.output
  size : w.heap.size ≤ w'.heap.size
  block : ∀ k, k < w.heap.size → k ∉ S → w'.heap[k]? = w.heap[k]?
section
variable {S S' : List Nat} {a w w' : World} {B : Nat}
theorem Chg.refl (S : List Nat) (w : World) : Chg S w w := ⟨rfl, rfl, rfl, Nat.le_refl _, fun _ _ _ => rfl⟩
theorem Chg.trans (h : Chg S a w) (k : Chg S w w') : Chg S a w' :=
  ⟨k.os.trans h.os, k.tape.trans h.tape, k.output.trans h.output, Nat.le_trans h.size k.size, fun i hi hn => (k.block i (Nat.lt_of_lt_of_le hi h.size) hn).trans (h.block i hi hn)⟩
theorem Chg.mono (h : Chg S w w') (hs : ∀ k ∈ S, k ∈ S') : Chg S' w w' := ⟨h.os, h.tape, h.output, h.size, fun k hk hn => h.block k hk fun hm => hn (hs k hm)⟩
theorem Chg.of_below (h : Below w.heap.size w w') : Chg S w w' := ⟨h.os, h.tape, h.output, h.size, fun k hk _ => h.block k hk⟩
theorem Chg.setCell (h : Chg S a w) {p : Addr} (hp : p.block ∈ S ∨ a.heap.size ≤ p.block) (u : Value) : Chg S a (w.setCell p u) :=
  ⟨h.os, h.tape, h.output, by simpa using h.size, fun k hk hn => (Below.heap_setCell _ _ _ _ (by rintro rfl; rcases hp with hp | hp; exact hn hp; omega)).trans (h.block k hk hn)⟩
theorem Chg.alloc (h : Chg S a w) (o : Obj) : Chg S a (w.alloc o) := h.trans (Chg.of_below ((Below.refl _ _).alloc (Nat.le_refl _) o))
theorem Chg.below (h : Chg S w w') (hB : ∀ k ∈ S, B ≤ k) (hs : B ≤ w.heap.size) : Below B w w' :=
  ⟨h.os, h.tape, h.output, h.size, fun k hk => h.block k (by omega) fun hm => by have := hB k hm; omega⟩
end

namespace D
/-- The row at ⟨b, o⟩ bears these data. -/
def RowIs (w : World) (b o : Nat) (ds : List D) : Prop := ∀ i d, ds[i]? = some d → w.cell? ⟨b, o + i * 4, none⟩ = some (.int .i64 d.k) ∧ w.cell? ⟨b, o + i * 4 + 1, none⟩ = some (.int .i64 d.n) ∧ w.cell? ⟨b, o + i * 4 + 2, none⟩ = some (.string d.t) ∧
      w.cell? ⟨b, o + i * 4 + 3, none⟩ = some (.slice d.A d.l.length d.c)
theorem RowIs.of_cells {w : World} {b o : Nat} {ds : List D} (h : ∀ (j : Nat) (u : Value), (cellsL ds)[j]? = some u → w.cell? ⟨b, o + j, none⟩ = some u) : RowIs w b o ds := by
  intro i d hi
  have g := fun j (hj : j < 4) => cellsL_get (ds := ds) hi j hj
  refine ⟨?_, ?_, ?_, ?_⟩
  · have := h (4 * i + 0) _ (by rw [g 0 (by omega)]; rfl)
    rwa [show o + (4 * i + 0) = o + i * 4 by omega] at this
  · have := h (4 * i + 1) _ (by rw [g 1 (by omega)]; rfl)
    rwa [show o + (4 * i + 1) = o + i * 4 + 1 by omega] at this
  · have := h (4 * i + 2) _ (by rw [g 2 (by omega)]; rfl)
    rwa [show o + (4 * i + 2) = o + i * 4 + 2 by omega] at this
  · have := h (4 * i + 3) _ (by rw [g 3 (by omega)]; rfl)
    rwa [show o + (4 * i + 3) = o + i * 4 + 3 by omega] at this
theorem RowIs.cells {w : World} {b o : Nat} {ds : List D} (h : RowIs w b o ds) : ∀ (j : Nat) (u : Value), (cellsL ds)[j]? = some u → w.cell? ⟨b, o + j, none⟩ = some u := by
  intro j u hu
  have hj : j < 4 * ds.length := by rw [← cellsL_length]; exact (List.getElem?_eq_some_iff.1 hu).1
  have hi : ds[j / 4]? = some ds[j / 4] := List.getElem?_eq_getElem (by omega)
  have g := cellsL_get (ds := ds) hi (j % 4) (by omega)
  rw [show 4 * (j / 4) + j % 4 = j by omega, hu] at g
  obtain ⟨h0, h1, h2, h3⟩ := h _ _ hi
  have e : j % 4 = 0 ∨ j % 4 = 1 ∨ j % 4 = 2 ∨ j % 4 = 3 := by omega
  rcases e with e | e | e | e <;> rw [e] at g <;> simp [D.cells] at g <;> subst g
  · rwa [show o + j = o + j / 4 * 4 by omega]
  · rwa [show o + j = o + j / 4 * 4 + 1 by omega]
  · rwa [show o + j = o + j / 4 * 4 + 2 by omega]
  · rwa [show o + j = o + j / 4 * 4 + 3 by omega]
theorem RowIs.upd {w w' : World} {b o j : Nat} {pre suf : List D} {x y : D} (h : RowIs w b o (pre ++ x :: suf)) (hj : pre.length = j)
    (hs : ∀ q, q ≠ o + j * 4 → q ≠ o + j * 4 + 1 → q ≠ o + j * 4 + 2 → w'.cell? ⟨b, q, none⟩ = w.cell? ⟨b, q, none⟩)
    (h0 : w'.cell? ⟨b, o + j * 4, none⟩ = some (.int .i64 y.k)) (h1 : w'.cell? ⟨b, o + j * 4 + 1, none⟩ = some (.int .i64 y.n)) (h2 : w'.cell? ⟨b, o + j * 4 + 2, none⟩ = some (.string y.t))
    (hA : y.A = x.A) (hl : y.l.length = x.l.length) (hc : y.c = x.c) : RowIs w' b o (pre ++ y :: suf) := by
  intro i d hi
  have hx := (h j x (by rw [List.getElem?_append_right (by omega), hj]; simp)).2.2.2
  by_cases e : i = j
  · subst e
    rw [List.getElem?_append_right (by omega), hj] at hi
    simp at hi
    subst hi
    refine ⟨h0, h1, h2, ?_⟩
    rw [hs _ (by omega) (by omega) (by omega), hx, hA, hl, hc]
  · have hi' : (pre ++ x :: suf)[i]? = some d := by
      by_cases hlt : i < j
      · rw [List.getElem?_append_left (by omega)] at hi ⊢; exact hi
      · rw [List.getElem?_append_right (by omega)] at hi ⊢
        obtain ⟨q, hq⟩ : ∃ q, i - pre.length = q + 1 := ⟨i - pre.length - 1, by omega⟩
        rw [hq] at hi ⊢
        simpa using hi
    obtain ⟨g0, g1, g2, g3⟩ := h i d hi'
    exact ⟨by rw [hs _ (by omega) (by omega) (by omega)]; exact g0, by rw [hs _ (by omega) (by omega) (by omega)]; exact g1, by rw [hs _ (by omega) (by omega) (by omega)]; exact g2, by rw [hs _ (by omega) (by omega) (by omega)]; exact g3⟩

section
variable {w w' : World} {lo hi : Nat} {x y : D} {pre suf l : List D}
theorem OwnL.mid (h : OwnL lo hi w (pre ++ x :: suf)) : Own lo hi w x := by
  have hb : ∀ b ∈ blks x, b ∈ blksL (pre ++ x :: suf) := fun b hb => by simp [blksL_append, blksL, hb]
  refine ⟨InL_iff.1 h.inn x (by simp), fun b hm => h.lo_ b (hb b hm), ?_, fun b hm => h.fr b (hb b hm)⟩
  have := h.nd
  simp only [blksL_append, blksL] at this
  exact (List.nodup_append.1 (List.nodup_append.1 this).2.1).1
theorem OwnL.mid_far (h : OwnL lo hi w (pre ++ x :: suf)) : ∀ b, b ∈ blksL pre ∨ b ∈ blksL suf → b ∉ blks x := by
  have h1 := h.nd
  simp only [blksL_append, blksL] at h1
  obtain ⟨_, h2, h3⟩ := List.nodup_append.1 h1
  obtain ⟨_, _, h4⟩ := List.nodup_append.1 h2
  intro b hb hx
  rcases hb with hb | hb
  · exact h3 b hb b (by simp [hx]) rfl
  · exact h4 b hx b hb rfl
theorem OwnL.put (h : OwnL lo hi w (pre ++ x :: suf)) (hk : ∀ k, k ∈ blksL pre ∨ k ∈ blksL suf → w'.heap[k]? = w.heap[k]?) (hy : Own lo hi w' y) (hb : blks y = blks x) : OwnL lo hi w' (pre ++ y :: suf) := by
  have e : blksL (pre ++ y :: suf) = blksL (pre ++ x :: suf) := by simp [blksL_append, blksL, hb]
  refine ⟨?_, fun b hm => h.lo_ b (by rwa [e] at hm), by rw [e]; exact h.nd, ?_⟩
  · rw [InL_append]
    refine ⟨InL_iff.2 fun z hz => ?_, hy.inn, InL_iff.2 fun z hz => ?_⟩
    · exact (InL_iff.1 h.inn z (by simp [hz])).keepB fun p hp => World.cell?_of_block (hk _ (.inl (blksL_mem.2 ⟨z, hz, hp⟩)))
    · exact (InL_iff.1 h.inn z (by simp [hz])).keepB fun p hp => World.cell?_of_block (hk _ (.inr (blksL_mem.2 ⟨z, hz, hp⟩)))
  · intro b hm o
    simp only [blksL_append, blksL, List.mem_append] at hm
    rcases hm with hm | hm | hm
    · exact (World.frozen?_of_block (hk b (.inl hm))).trans (h.fr b (by simp [blksL_append, hm]) o)
    · exact hy.fr b hm o
    · exact (World.frozen?_of_block (hk b (.inr hm))).trans (h.fr b (by simp [blksL_append, blksL, hm]) o)

/-- What is owned, taken apart. -/
theorem Own.parts {k n : Int} {t : ByteArray} {A : Option Addr} {c : Nat} (h : Own lo hi w (.mk k n t A c l)) (hl : l ≠ []) :
    ∃ b o, A = some ⟨b, o, none⟩ ∧ lo ≤ b ∧ b < hi ∧ b ∉ blksL l ∧ (∀ q, w.frozen? ⟨b, q, none⟩ = false) ∧ RowIs w b o l ∧ OwnL lo hi w l := by
  obtain ⟨b, o, rfl, hb, hc⟩ := h.inn.2.1 hl
  have e : blks (.mk k n t (some ⟨b, o, none⟩) c l) = b :: blksL l := by
    cases l with
    | nil => exact absurd rfl hl
    | cons _ _ => simp [blks]
  have hnd := h.nd
  rw [e, List.nodup_cons] at hnd
  exact ⟨b, o, rfl, h.lo_ b (by simp [e]), hb, hnd.1, h.fr b (by simp [e]), RowIs.of_cells hc, ⟨h.inn.2.2, fun q hq => h.lo_ q (by simp [e, hq]), hnd.2, fun q hq => h.fr q (by simp [e, hq])⟩⟩
theorem Own.join {k n : Int} {t : ByteArray} {b o c : Nat} (h : OwnL lo hi w l) (hc : l.length ≤ c ∧ c ≤ maxLen ∧ t.size ≤ maxLen) (hlo : lo ≤ b) (hhi : b < hi) (hg : b ∉ blksL l)
    (hf : ∀ q, w.frozen? ⟨b, q, none⟩ = false) (hr : RowIs w b o l) : Own lo hi w (.mk k n t (some ⟨b, o, none⟩) c l) := by
  refine ⟨⟨hc, fun _ => ⟨b, o, rfl, hhi, hr.cells⟩, h.inn⟩, ?_, ?_, ?_⟩
  · intro q hm
    simp only [blks, List.mem_append] at hm
    rcases hm with hm | hm
    · split at hm
      · simp at hm
      · simp at hm; omega
    · exact h.lo_ q hm
  · simp only [blks]
    split
    · simpa using h.nd
    · simpa using ⟨hg, h.nd⟩
  · intro q hm r
    simp only [blks, List.mem_append] at hm
    rcases hm with hm | hm
    · split at hm
      · simp at hm
      · simp at hm; subst hm; exact hf r
    · exact h.fr q hm r
end
end D
end Go.Proofs.Ytiopophoioiafaa
