/-
  The laws' own marking of a core term: the answer, and that nothing but the term's own memory is written (written by gen/komark.py).
-/
import Derived.Test.YtnkdfphbglcnmaaKoCopy
import Derived.Test.YtnkdfphbglcnmaaMarks
import Derived.Test.YtnkdfphbglcnmaaSMarks
namespace Go.Proofs.Ytnkdfphbglcnmaa
open Go.RowKit

theorem Ko.head_parts {lo hi : Nat} {w : World} {x : Ko} (h : Ko.H.Own lo hi w x) : IOwn lo hi w x.sA x.sC x.s ∧ x.d.Own lo hi w ∧ ∀ b ∈ iblk x.sA x.s, b ∉ D.blks x.d := by
  obtain ⟨⟨i1, i2, _⟩, hlo, hnd, hfr⟩ := h
  obtain ⟨n1, n2, n3⟩ := List.nodup_append.1 hnd
  refine ⟨⟨i1, fun hl b o e => ?_⟩, ⟨i2, fun b hb => hlo b (List.mem_append.2 (.inr hb)), n2, fun b hb => hfr b (List.mem_append.2 (.inr hb))⟩, fun b hb hm => n3 b hb b hm rfl⟩
  have hm : b ∈ iblk x.sA x.s := by rw [e, iblk_some hl]; simp
  exact ⟨hlo b (List.mem_append.2 (.inl hm)), hfr b (List.mem_append.2 (.inl hm))⟩
theorem Ko.own_parts {lo hi : Nat} {w : World} {d : Tr Ko} (h : Ko.E.Own lo hi w d) : Ko.H.Own lo hi w d.a ∧ Ko.E.LOwn lo hi w d.A d.c d.l ∧ ∀ b ∈ Ko.H.blks d.a, b ∉ Ko.E.lblks d.A d.l := by
  cases d
  exact Tr.own_parts h
theorem Ko.blks_all (d : Tr Ko) : Ko.E.blks d = (iblk d.a.sA d.a.s ++ D.blks d.a.d) ++ Ko.E.lblks d.A d.l := by cases d; exact Tr.blks_eq _ _ _ _
mutual
/-- How many marks the parts of a node take. -/
def Tr.kwt : Tr Ko → Nat | .mk a _ _ l => a.s.length + 3 * D.sizeL a.d.l + Tr.kwtL l
def Tr.kwtL : List (Tr Ko) → Nat | [] => 0 | d :: r => 5 + Tr.kwt d + Tr.kwtL r
end
theorem Tr.kwt_eq (d : Tr Ko) : d.kwt = d.a.s.length + 3 * D.sizeL d.a.d.l + Tr.kwtL d.l := by cases d; rfl
theorem Tr.kwtL_take_succ (l : List (Tr Ko)) (j : Nat) (h : j < l.length) : Tr.kwtL (l.take (j + 1)) = Tr.kwtL (l.take j) + 5 + (l[j]).kwt := by
  have key : ∀ a b : List (Tr Ko), Tr.kwtL (a ++ b) = Tr.kwtL a + Tr.kwtL b := by
    intro a b
    induction a with
    | nil => simp [Tr.kwtL]
    | cons d r ih => simp [Tr.kwtL, ih]; omega
  rw [List.take_succ_eq_append_getElem h, key]; simp [Tr.kwtL]; omega
theorem Tr.kwtL_take_le (l : List (Tr Ko)) (j : Nat) : Tr.kwtL (l.take j) ≤ Tr.kwtL l := by
  have key : ∀ a b : List (Tr Ko), Tr.kwtL (a ++ b) = Tr.kwtL a + Tr.kwtL b := by
    intro a b
    induction a with
    | nil => simp [Tr.kwtL]
    | cons d r ih => simp [Tr.kwtL, ih]; omega
  have h := key (l.take j) (l.drop j)
  rw [List.take_append_drop] at h
  omega
mutual
theorem Tr.kwt_le : ∀ d : Tr Ko, d.kwt ≤ 8 * d.bulk Ko.bulk + 3
  | .mk a _ _ l => by
    have h1 := Tr.kwtL_le l
    have h2 := D.bulk_size a.d
    have h3 := D.size_eq a.d
    simp only [Tr.kwt, Tr.bulk, Ko.bulk]; omega
theorem Tr.kwtL_le : ∀ l : List (Tr Ko), Tr.kwtL l ≤ 8 * Tr.bulkL Ko.bulk l
  | [] => Nat.le_refl _
  | d :: r => by have := Tr.kwt_le d; have := Tr.kwtL_le r; simp only [Tr.kwtL, Tr.bulkL]; omega
end
/-- j elements of the row at ⟨b, o⟩ have been marked. -/
structure KoRun (w : World) (b o : Nat) (l : List (Tr Ko)) (j : Nat) (wr : World) : Prop where
  chg : Chg (b :: Ko.E.blksL (l.take j)) w wr
  row : ∀ p, o + j * 8 ≤ p → wr.cell? ⟨b, p, none⟩ = w.cell? ⟨b, p, none⟩
  fr : ∀ p, wr.frozen? ⟨b, p, none⟩ = false
theorem KoRun.step {w wr w3 w5 w7 w8 : World} {b o j : Nat} {l : List (Tr Ko)} {u0 u1 u2 u3 u4 : Value} (h : KoRun w b o l j wr) (hj : j < l.length) (hb : b < wr.heap.size) (hbn : b ∉ Ko.E.blks l[j])
    (h3 : Chg (iblk l[j].a.sA l[j].a.s) ((wr.setCell ⟨b, o + j * 8, none⟩ u0).setCell ⟨b, o + j * 8 + 1, none⟩ u1) w3)
    (h5 : Below w3.heap.size ((w3.setCell ⟨b, o + j * 8 + 3, none⟩ u2).setCell ⟨b, o + j * 8 + 4, none⟩ u3) w5)
    (h7 : Chg (D.blks l[j].a.d) (w5.setCell ⟨b, o + j * 8 + 5, none⟩ u4) w7)
    (h8 : Chg (Ko.E.lblks l[j].A l[j].l) w7 w8) : KoRun w b o l (j + 1) w8 := by
  rw [Ko.blks_all, List.mem_append, List.mem_append, not_or, not_or] at hbn
  obtain ⟨⟨n1, n2⟩, n3⟩ := hbn
  have s3 := h3.size
  have s5 := h5.size
  have s7 := h7.size
  have s8 := h8.size
  simp only [World.size_setCell] at s3 s5 s7
  have eb : Ko.E.blksL (l.take (j + 1)) = Ko.E.blksL (l.take j) ++ Ko.E.blks l[j] := by
    rw [List.take_succ_eq_append_getElem hj]; unfold Elem.blksL; rw [List.flatMap_append, List.flatMap_singleton]
  have mb : ∀ k, k ∈ iblk l[j].a.sA l[j].a.s ∨ k ∈ D.blks l[j].a.d ∨ k ∈ Ko.E.lblks l[j].A l[j].l → k ∈ b :: Ko.E.blksL (l.take (j + 1)) := by
    intro k hk
    rw [eb, Ko.blks_all]
    simp only [List.mem_cons, List.mem_append]
    rcases hk with hk | hk | hk <;> simp [hk]
  have m0 : ∀ k ∈ b :: Ko.E.blksL (l.take j), k ∈ b :: Ko.E.blksL (l.take (j + 1)) := by
    intro k hk
    rw [eb]
    simp only [List.mem_cons, List.mem_append] at hk ⊢
    rcases hk with hk | hk <;> simp [hk]
  have B0 : b ∈ b :: Ko.E.blksL (l.take (j + 1)) := by simp
  refine ⟨?_, fun p hp => ?_, fun p => ?_⟩
  · have c0 := ((h.chg.mono m0).setCell (p := ⟨b, o + j * 8, none⟩) (.inl B0) u0).setCell (p := ⟨b, o + j * 8 + 1, none⟩) (.inl B0) u1
    have c3 := c0.trans (h3.mono fun k hk => mb k (.inl hk))
    have c4 := (c3.setCell (p := ⟨b, o + j * 8 + 3, none⟩) (.inl B0) u2).setCell (p := ⟨b, o + j * 8 + 4, none⟩) (.inl B0) u3
    have c5 := c4.trans (Chg.of_below (by simpa using h5))
    have c7 := (c5.setCell (p := ⟨b, o + j * 8 + 5, none⟩) (.inl B0) u4).trans (h7.mono fun k hk => mb k (.inr (.inl hk)))
    exact c7.trans (h8.mono fun k hk => mb k (.inr (.inr hk)))
  · rw [World.cell?_of_block (a := ⟨b, p, none⟩) (h8.block b (by omega) n3), World.cell?_of_block (a := ⟨b, p, none⟩) (h7.block b (by simp; omega) n2), icell_ne _ _ _ _ _ (by omega), h5.cell (p := ⟨b, p, none⟩) (show b < _ by omega), icell_ne _ _ _ _ _ (by omega), icell_ne _ _ _ _ _ (by omega),
      World.cell?_of_block (a := ⟨b, p, none⟩) (h3.block b (by simp; omega) n1), icell_ne _ _ _ _ _ (by omega), icell_ne _ _ _ _ _ (by omega)]
    exact h.row p (by omega)
  · rw [World.frozen?_of_block (a := ⟨b, p, none⟩) (h8.block b (by omega) n3), World.frozen?_of_block (a := ⟨b, p, none⟩) (h7.block b (by simp; omega) n2), World.frozen?_setCell, h5.frozen (p := ⟨b, p, none⟩) (show b < _ by omega), World.frozen?_setCell, World.frozen?_setCell,
      World.frozen?_of_block (a := ⟨b, p, none⟩) (h3.block b (by simp; omega) n1), World.frozen?_setCell, World.frozen?_setCell]
    exact h.fr p

end Go.Proofs.Ytnkdfphbglcnmaa
