/-
  The laws' own marking of a core term: the answer, and that nothing but the term's own memory is written (written by gen/komark.py).
-/
import Derived.Test.YtndckeodpoommaaKoCopy
import Derived.Test.YtndckeodpoommaaMarks
import Derived.Test.YtndckeodpoommaaSMarks
namespace Go.Proofs.Ytndckeodpoommaa
open Go.RowKit

theorem Ko.head_parts {lo hi : Nat} {w : World} {x : Ko} (h : Ko.H.Own lo hi w x) : IOwn lo hi w x.sA x.sC x.s ∧ x.d.Own lo hi w ∧ ∀ b ∈ iblk x.sA x.s, b ∉ D.blks x.d := by
  obtain ⟨⟨i1, i2, _⟩, hlo, hnd, hfr⟩ := h
  obtain ⟨n1, n2, n3⟩ := List.nodup_append.1 hnd
  refine ⟨⟨i1, fun hl b o e => ?_⟩, ⟨i2, fun b hb => hlo b (List.mem_append.2 (.inr hb)), n2, fun b hb => hfr b (List.mem_append.2 (.inr hb))⟩, fun b hb hm => n3 b hb b hm rfl⟩
  have hm : b ∈ iblk x.sA x.s := by rw [e, iblk_some hl]; simp
  exact ⟨hlo b (List.mem_append.2 (.inl hm)), hfr b (List.mem_append.2 (.inl hm))⟩
theorem Ko.own_parts {lo hi : Nat} {w : World} {d : Tr Ko} (h : Ko.E.Own lo hi w d) : Ko.H.Own lo hi w d.a ∧ Ko.E.LOwn lo hi w d.A d.c d.l ∧ ∀ b ∈ Ko.H.blks d.a, b ∉ Ko.E.lblks d.A d.l := by
  cases d
  exact Tr.own_parts h
theorem Ko.blks_all (d : Tr Ko) : Ko.E.blks d = (iblk d.a.sA d.a.s ++ D.blks d.a.d) ++ Ko.E.lblks d.A d.l := by cases d; exact Tr.blks_eq _ _ _ _
mutual
/-- How many marks the parts of a node take. -/
def Tr.kwt : Tr Ko → Nat | .mk a _ _ l => a.s.length + 3 * D.sizeL a.d.l + Tr.kwtL l
def Tr.kwtL : List (Tr Ko) → Nat | [] => 0 | d :: r => 5 + Tr.kwt d + Tr.kwtL r
end
theorem Tr.kwt_eq (d : Tr Ko) : d.kwt = d.a.s.length + 3 * D.sizeL d.a.d.l + Tr.kwtL d.l := by cases d; rfl
theorem Tr.kwtL_take_succ (l : List (Tr Ko)) (j : Nat) (h : j < l.length) : Tr.kwtL (l.take (j + 1)) = Tr.kwtL (l.take j) + 5 + (l[j]).kwt := by
  have key : ∀ a b : List (Tr Ko), Tr.kwtL (a ++ b) = Tr.kwtL a + Tr.kwtL b := by
    intro a b
    induction a with
    | nil => simp [Tr.kwtL]
    | cons d r ih => simp [Tr.kwtL, ih]; omega
  rw [List.take_succ_eq_append_getElem h, key]; simp [Tr.kwtL]; omega
theorem Tr.kwtL_take_le (l : List (Tr Ko)) (j : Nat) : Tr.kwtL (l.take j) ≤ Tr.kwtL l := by
  have key : ∀ a b : List (Tr Ko), Tr.kwtL (a ++ b) = Tr.kwtL a + Tr.kwtL b := by
    intro a b
    induction a with
    | nil => simp [Tr.kwtL]
    | cons d r ih => simp [Tr.kwtL, ih]; omega
  have h := key (l.take j) (l.drop j)
  rw [List.take_append_drop] at h
  omega
mutual
theorem Tr.kwt_le : ∀ d : Tr Ko, d.kwt ≤ 8 * d.bulk Ko.bulk + 3
  | .mk a _ _ l => by
    have h1 := Tr.kwtL_le l
    have h2 := D.bulk_size a.d
    have h3 := D.size_eq a.d
    simp only [Tr.kwt, Tr.bulk, Ko.bulk]; omega
theorem Tr.kwtL_le : ∀ l : List (Tr Ko), Tr.kwtL l ≤ 8 * Tr.bulkL Ko.bulk l
  | [] => Nat.le_refl _
  | d :: r => by have := Tr.kwt_le d; have := Tr.kwtL_le r; simp only [Tr.kwtL, Tr.bulkL]; omega
end
/-- j elements of the row at ⟨b, o⟩ have been marked. -/
structure KoRun (w : World) (b o : Nat) (l : List (Tr Ko)) (j : Nat) (wr : World) : Prop where
  chg : Chg (b :: Ko.E.blksL (l.take j)) w wr
  row : ∀ p, o + j * 8 ≤ p → wr.cell? ⟨b, p, none⟩ = w.cell? ⟨b, p, none⟩
  fr : ∀ p, wr.frozen? ⟨b, p, none⟩ = false
theorem KoRun.step {w wr w3 w5 w7 w8 : World} {b o j : Nat} {l : List (Tr Ko)} {u0 u1 u2 u3 u4 : Value} (h : KoRun w b o l j wr) (hj : j < l.length) (hb : b < wr.heap.size) (hbn : b ∉ Ko.E.blks l[j])
    (h3 : Chg (iblk l[j].a.sA l[j].a.s) ((wr.setCell ⟨b, o + j * 8, none⟩ u0).setCell ⟨b, o + j * 8 + 1, none⟩ u1) w3)
    (h5 : Below w3.heap.size ((w3.setCell ⟨b, o + j * 8 + 3, none⟩ u2).setCell ⟨b, o + j * 8 + 4, none⟩ u3) w5)
    (h7 : Chg (D.blks l[j].a.d) (w5.setCell ⟨b, o + j * 8 + 5, none⟩ u4) w7)
    (h8 : Chg (Ko.E.lblks l[j].A l[j].l) w7 w8) : KoRun w b o l (j + 1) w8 := by
  rw [Ko.blks_all, List.mem_append, List.mem_append, not_or, not_or] at hbn
  obtain ⟨⟨n1, n2⟩, n3⟩ := hbn
  have s3 := h3.size
  have s5 := h5.size
  have s7 := h7.size
  have s8 := h8.size
  simp only [World.size_setCell] at s3 s5 s7
  have eb : Ko.E.blksL (l.take (j + 1)) = Ko.E.blksL (l.take j) ++ Ko.E.blks l[j] := by
    rw [List.take_succ_eq_append_getElem hj]; unfold Elem.blksL; rw [List.flatMap_append, List.flatMap_singleton]
  have mb : ∀ k, k ∈ iblk l[j].a.sA l[j].a.s ∨ k ∈ D.blks l[j].a.d ∨ k ∈ Ko.E.lblks l[j].A l[j].l → k ∈ b :: Ko.E.blksL (l.take (j + 1)) := by
    intro k hk
    rw [eb, Ko.blks_all]
    simp only [List.mem_cons, List.mem_append]
    rcases hk with hk | hk | hk <;> simp [hk]
  have m0 : ∀ k ∈ b :: Ko.E.blksL (l.take j), k ∈ b :: Ko.E.blksL (l.take (j + 1)) := by
    intro k hk
    rw [eb]
    simp only [List.mem_cons, List.mem_append] at hk ⊢
    rcases hk with hk | hk <;> simp [hk]
  have B0 : b ∈ b :: Ko.E.blksL (l.take (j + 1)) := by simp
  refine ⟨?_, fun p hp => ?_, fun p => ?_⟩
  · have c0 := ((h.chg.mono m0).setCell (p := ⟨b, o + j * 8, none⟩) (.inl B0) u0).setCell (p := ⟨b, o + j * 8 + 1, none⟩) (.inl B0) u1
    have c3 := c0.trans (h3.mono fun k hk => mb k (.inl hk))
    have c4 := (c3.setCell (p := ⟨b, o + j * 8 + 3, none⟩) (.inl B0) u2).setCell (p := ⟨b, o + j * 8 + 4, none⟩) (.inl B0) u3
    have c5 := c4.trans (Chg.of_below (by simpa using h5))
    have c7 := (c5.setCell (p := ⟨b, o + j * 8 + 5, none⟩) (.inl B0) u4).trans (h7.mono fun k hk => mb k (.inr (.inl hk)))
    exact c7.trans (h8.mono fun k hk => mb k (.inr (.inr hk)))
  · rw [World.cell?_of_block (a := ⟨b, p, none⟩) (h8.block b (by omega) n3), World.cell?_of_block (a := ⟨b, p, none⟩) (h7.block b (by simp; omega) n2), icell_ne _ _ _ _ _ (by omega), h5.cell (p := ⟨b, p, none⟩) (show b < _ by omega), icell_ne _ _ _ _ _ (by omega), icell_ne _ _ _ _ _ (by omega),
      World.cell?_of_block (a := ⟨b, p, none⟩) (h3.block b (by simp; omega) n1), icell_ne _ _ _ _ _ (by omega), icell_ne _ _ _ _ _ (by omega)]
    exact h.row p (by omega)
  · rw [World.frozen?_of_block (a := ⟨b, p, none⟩) (h8.block b (by omega) n3), World.frozen?_of_block (a := ⟨b, p, none⟩) (h7.block b (by simp; omega) n2), World.frozen?_setCell, h5.frozen (p := ⟨b, p, none⟩) (show b < _ by omega), World.frozen?_setCell, World.frozen?_setCell,
      World.frozen?_of_block (a := ⟨b, p, none⟩) (h3.block b (by simp; omega) n1), World.frozen?_setCell, World.frozen?_setCell]
    exact h.fr p

def KoMarkLOk (m : Nat) : Prop := ∀ (A : Option Addr) (c : Nat) (l : List (Tr Ko)) (lo hi : Nat) (w : World) (q : Int), Tr.sizeL l ≤ m → Tr.bulkL Ko.bulk l ≤ 1500000 → 0 ≤ q → q + Tr.kwtL l ≤ 100000000 → Ko.E.LOwn lo hi w A c l → hi ≤ w.heap.size →
    Calls Try.prog 47 #[.slice A l.length c, .int .i64 q] w fun e w' => e = .returned (.int .i64 (q + Tr.kwtL l)) ∧ Chg (Ko.E.lblks A l) w w'

set_option maxRecDepth 100000 in
set_option maxHeartbeats 4000000 in
theorem Ko_markL_step (m : Nat) (ih : ∀ m', m' < m → KoMarkLOk m') : KoMarkLOk m := by
  intro A c l lo hi w q hm hbk hq0 hq hown hhi
  have hcap := hown.inn.cap
  by_cases hl : l = []
  · subst hl
    go_enter Try.func47, Try.ntmps47
    go_wp2_with fail
    go_loopw [1, 5] (fun v i wr => v = .int .i64 q ∧ i = .int .i64 0 ∧ wr = w) (fun _ _ _ => 0)
    case atStart => exact ⟨rfl, rfl, rfl⟩
    case round =>
      obtain ⟨rfl, rfl, rfl⟩ := hrel
      go_wp2_with fail
      go_ret
      exact ⟨ret_int (by simp [Tr.kwtL]), Chg.refl _ _⟩
  · obtain ⟨b, o, rfl, hbhi, hcells⟩ := hown.inn.mem hl
    have hlb : Ko.E.lblks (some ⟨b, o, none⟩) l = b :: Ko.E.blksL l := by unfold Elem.lblks; rw [Elem.lblk_some hl]; rfl
    have hfz : ∀ p, w.frozen? ⟨b, p, none⟩ = false := hown.fr b (by rw [hlb]; simp)
    have Hlb := Lib.hid hlb
    clear hlb
    go_enter Try.func47, Try.ntmps47
    go_wp2_with fail
    go_loopw [1, 5] (fun v i wr => ∃ j : Nat, j ≤ l.length ∧ i = .int .i64 j ∧ v = .int .i64 (q + (Tr.kwtL (l.take j) : Int)) ∧ KoRun w b o l j wr) (fun _ i _ => l.length - (intOf i).toNat)
    case atStart => exact ⟨0, Nat.zero_le _, rfl, by simp [Tr.kwtL], Chg.refl _ _, fun _ _ => rfl, hfz⟩
    case round =>
      obtain ⟨j, hj, rfl, rfl, hr⟩ := hrel
      have hs2 := hr.chg.size
      by_cases hlt : j < l.length
      · obtain ⟨b', o', e, hblk, c0, c1, c2, c3, c4, c5, c6, c7, hix⟩ := Ko.at_ hown.inn (i := j) (x := l[j]) (List.getElem?_eq_getElem hlt)
        obtain ⟨rfl, rfl, _⟩ := Addr.mk.inj (Option.some.inj e)
        clear e hix
        have hsz := Tr.sizeL_mem (l := l) (List.getElem_mem hlt)
        have hbk1 := Tr.bulkL_mem (f := Ko.bulk) (l := l) (List.getElem_mem hlt)
        have hsq := Tr.size_eq l[j]
        have hbq := Tr.bulk_eq Ko.bulk l[j]
        have hbd := D.bulk_size l[j].a.d
        have hds := D.size_eq l[j].a.d
        have hkb : Ko.bulk l[j].a = l[j].a.s.length + l[j].a.d.bulk := rfl
        have hw1 := Tr.kwtL_take_succ l j hlt
        have hw2 := Tr.kwtL_take_le l (j + 1)
        have hw3 := Tr.kwt_eq l[j]
        have hsplit : l = l.take j ++ l[j] :: l.drop (j + 1) := by rw [← List.drop_eq_getElem_cons hlt, List.take_append_drop]
        have hmid := hown
        rw [hsplit] at hmid
        obtain ⟨hox, hbx⟩ := hmid.mid
        have hbx := hbx b o rfl
        have hdis : ∀ k ∈ Ko.E.blks l[j], k ∉ b :: Ko.E.blksL (l.take j) := by
          intro k hk hm
          rcases List.mem_cons.1 hm with rfl | hm
          · exact hbx hk
          · have hnd := hmid.nd
            have hnd2 := (List.nodup_append.1 hnd).2.1
            simp only [Elem.blksL, List.flatMap_append, List.flatMap_cons] at hnd2 hm
            exact (List.nodup_append.1 hnd2).2.2 k hm k (by simp [hk]) rfl
        clear hmid hsplit
        have hor : Ko.E.Own lo hi wr l[j] := hox.keepB fun k hk => hr.chg.block k (by have := hox.inn.blk_lt k hk; omega) (hdis k hk)
        obtain ⟨hoh, hol, hdj⟩ := Ko.own_parts hor
        obtain ⟨hos, hod, hsd⟩ := Ko.head_parts hoh
        have nb1 : b ∉ iblk l[j].a.sA l[j].a.s := fun h => hbx (by rw [Ko.blks_all]; simp [h])
        have nb2 : b ∉ D.blks l[j].a.d := fun h => hbx (by rw [Ko.blks_all]; simp [h])
        have rc := hr.row
        have r0 := (rc (o + j * 8) (by omega)).trans c0
        have r1 := (rc (o + j * 8 + 1) (by omega)).trans c1
        have r2 := (rc (o + j * 8 + 2) (by omega)).trans c2
        have r3 := (rc (o + j * 8 + 3) (by omega)).trans c3
        have r4 := (rc (o + j * 8 + 4) (by omega)).trans c4
        have r5 := (rc (o + j * 8 + 5) (by omega)).trans c5
        have r6 := (rc (o + j * 8 + 6) (by omega)).trans c6
        have r7 := (rc (o + j * 8 + 7) (by omega)).trans c7
        have f0 := hr.fr (o + j * 8)
        have f1 := hr.fr (o + j * 8 + 1)
        have lb : b < wr.heap.size := by omega
        clear rc c0 c1 c2 c3 c4 c5 c6 c7 hox
        have HR := Lib.hid hr
        have HFZ := Lib.hid hfz
        have HBX := Lib.hid hbx
        clear hr hfz hbx hdis
        go_wp2_with fail
        refine (markI_any l[j].a.sA l[j].a.sC l[j].a.s lo hi _ _ (by omega) (by omega) (by omega) (hos.keep fun k hk => ?_)).mono ?_
        · have hne : k ≠ b := fun e => nb1 (e ▸ hk)
          rw [Below.heap_setCell _ _ _ _ hne, Below.heap_setCell _ _ _ _ hne]
        rintro e w3 ⟨rfl, _, h3⟩
        have z3 := h3.size
        simp only [World.size_setCell] at z3
        have cb : ∀ p, p ≠ o + j * 8 → p ≠ o + j * 8 + 1 → w3.cell? ⟨b, p, none⟩ = wr.cell? ⟨b, p, none⟩ := fun p p0 p1 => by
          rw [World.cell?_of_block (a := ⟨b, p, none⟩) (h3.block b (by simp; omega) nb1), icell_ne _ _ _ _ _ p1, icell_ne _ _ _ _ _ p0]
        have fb : ∀ p, w3.frozen? ⟨b, p, none⟩ = false := fun p => by
          rw [World.frozen?_of_block (a := ⟨b, p, none⟩) (h3.block b (by simp; omega) nb1), World.frozen?_setCell, World.frozen?_setCell]; exact HR.out.fr p
        have t3 := (cb (o + j * 8 + 3) (by omega) (by omega)).trans r3
        have t4 := (cb (o + j * 8 + 4) (by omega) (by omega)).trans r4
        have t5 := (cb (o + j * 8 + 5) (by omega) (by omega)).trans r5
        have t6 := (cb (o + j * 8 + 6) (by omega) (by omega)).trans r6
        have t7 := (cb (o + j * 8 + 7) (by omega) (by omega)).trans r7
        have g3 := fb (o + j * 8 + 3)
        have g4 := fb (o + j * 8 + 4)
        have H3 := Lib.hid h3
        have FB := Lib.hid fb
        clear h3 cb fb r0 r1 r2 r3 r4 r5 r6 r7 f0 f1
        go_wp2_with fail
        refine (markText_any _ _ (by omega)).mono ?_
        rintro e w5 ⟨rfl, h5⟩
        have z5 := h5.size
        simp only [World.size_setCell] at z5 h5
        have cb : ∀ p, p ≠ o + j * 8 + 3 → p ≠ o + j * 8 + 4 → w5.cell? ⟨b, p, none⟩ = w3.cell? ⟨b, p, none⟩ := fun p p0 p1 => by
          rw [h5.cell (p := ⟨b, p, none⟩) (show b < _ by omega), icell_ne _ _ _ _ _ p1, icell_ne _ _ _ _ _ p0]
        have v5 := (cb (o + j * 8 + 5) (by omega) (by omega)).trans t5
        have v6 := (cb (o + j * 8 + 6) (by omega) (by omega)).trans t6
        have v7 := (cb (o + j * 8 + 7) (by omega) (by omega)).trans t7
        have g5 : w5.frozen? ⟨b, o + j * 8 + 5, none⟩ = false := by rw [h5.frozen (p := ⟨b, o + j * 8 + 5, none⟩) (show b < _ by omega), World.frozen?_setCell, World.frozen?_setCell]; exact FB.out _
        have H5 := Lib.hid h5
        clear h5 cb t3 t4 t5 t6 t7 g3 g4
        go_wp2_with fail
        refine (mark_any (D.sizeL l[j].a.d.l) l[j].a.d lo hi _ _ (Nat.le_refl _) (by omega) (by omega) (by omega) (hod.keepB fun k hk => ?_) (by simp; omega)).mono ?_
        · have hne : k ≠ b := fun e => nb2 (e ▸ hk)
          have hklt := hod.inn.blk_lt k hk
          rw [Below.heap_setCell _ _ _ _ hne, H5.out.block k (by omega), Below.heap_setCell _ _ _ _ hne, Below.heap_setCell _ _ _ _ hne, H3.out.block k (by simp; omega) (fun h => hsd k h hk), Below.heap_setCell _ _ _ _ hne, Below.heap_setCell _ _ _ _ hne]
        rintro e w7 ⟨rfl, _, h7⟩
        have z7 := h7.size
        simp only [World.size_setCell] at z7
        have x7 : w7.cell? ⟨b, o + j * 8 + 7, none⟩ = some (.slice l[j].A l[j].l.length l[j].c) := by
          rw [World.cell?_of_block (a := ⟨b, o + j * 8 + 7, none⟩) (h7.block b (by simp; omega) nb2), icell_ne _ _ _ _ _ (by omega)]; exact v7
        have H7 := Lib.hid h7
        clear h7 v5 v6 v7 g5
        go_wp2_with fail
        refine (ih (Tr.sizeL l[j].l) (by omega) l[j].A l[j].c l[j].l lo hi _ _ (Nat.le_refl _) (by omega) (by omega) (by omega) (hol.keepB fun k hk => ?_) (by omega)).mono ?_
        · have hk2 : k ∈ Ko.E.blks l[j] := by rw [Ko.blks_all]; simp [hk]
          have hne : k ≠ b := fun e => HBX.out (e ▸ hk2)
          have hklt := hol.inn.blk_lt k hk
          have q1 : k ∉ iblk l[j].a.sA l[j].a.s := fun h => hdj k (List.mem_append.2 (.inl h)) hk
          have q2 : k ∉ D.blks l[j].a.d := fun h => hdj k (List.mem_append.2 (.inr h)) hk
          rw [H7.out.block k (by simp; omega) q2, Below.heap_setCell _ _ _ _ hne, H5.out.block k (by omega), Below.heap_setCell _ _ _ _ hne, Below.heap_setCell _ _ _ _ hne, H3.out.block k (by simp; omega) q1, Below.heap_setCell _ _ _ _ hne, Below.heap_setCell _ _ _ _ hne]
        rintro e w8 ⟨rfl, h8⟩
        have HS := Lib.hid (KoRun.step HR.out hlt lb HBX.out H3.out H5.out H7.out h8)
        clear h8 x7
        go_wp2_with fail
        refine ⟨⟨j + 1, by omega, by go_num, by rw [hw1, hw3]; congr 1; omega, HS.out⟩, by simp [intOf]; omega⟩
      · have hj' : j = l.length := by omega
        subst hj'
        have HR := Lib.hid hr
        clear hr
        go_wp2_with fail
        go_ret
        have hc := HR.out.chg
        rw [List.take_length] at hc
        exact ⟨ret_int (by rw [List.take_length]), by rw [Hlb.out]; exact hc⟩
theorem Ko_markL_any (m : Nat) : KoMarkLOk m := by
  induction m using Nat.strongRecOn with
  | _ m ih => exact Ko_markL_step m ih

end Go.Proofs.Ytndckeodpoommaa
