/-
  The laws' own marking of a core term: the answer, and that nothing but the term's own memory is written (written by gen/komark.py).
-/
import Derived.Test.YtpigpncbjckbcaaGreatKoCopy
import Derived.Test.YtpigpncbjckbcaaGreatMarks
import Derived.Test.YtpigpncbjckbcaaGreatIntE
import Derived.Deep.RegionHeld3
namespace Go.Proofs.YtpigpncbjckbcaaGreat
open Go.RowKit
theorem Ko.head_parts {lo hi : Nat} {w : World} {x : Ko} (h : Ko.H.Own lo hi w x) : IOwn lo hi w x.sA x.sC x.s ∧ x.d.Own lo hi w ∧ ∀ b ∈ iblk x.sA x.s, b ∉ D.blks x.d := by
  obtain ⟨⟨i1, i2, _⟩, hlo, hnd, hfr⟩ := h
  obtain ⟨n1, n2, n3⟩ := List.nodup_append.1 hnd
  refine ⟨⟨i1, fun hl b o e => ?_⟩, ⟨i2, fun b hb => hlo b (List.mem_append.2 (.inr hb)), n2, fun b hb => hfr b (List.mem_append.2 (.inr hb))⟩, fun b hb hm => n3 b hb b hm rfl⟩
  have hm : b ∈ iblk x.sA x.s := by rw [e, iblk_some hl]; simp
  exact ⟨hlo b (List.mem_append.2 (.inl hm)), hfr b (List.mem_append.2 (.inl hm))⟩
theorem Ko.own_parts {lo hi : Nat} {w : World} {d : Tr Ko} (h : Ko.E.Own lo hi w d) : Ko.H.Own lo hi w d.a ∧ Ko.E.LOwn lo hi w d.A d.c d.l ∧ ∀ b ∈ Ko.H.blks d.a, b ∉ Ko.E.lblks d.A d.l := by
  cases d
  exact Tr.own_parts h
theorem Ko.blks_all (d : Tr Ko) : Ko.E.blks d = (iblk d.a.sA d.a.s ++ D.blks d.a.d) ++ Ko.E.lblks d.A d.l := by cases d; exact Tr.blks_eq _ _ _ _
mutual
def Tr.kwt : Tr Ko → Nat | .mk a _ _ l => a.s.length + 3 * D.sizeL a.d.l + Tr.kwtL l
def Tr.kwtL : List (Tr Ko) → Nat | [] => 0 | d :: r => 5 + Tr.kwt d + Tr.kwtL r
end
theorem Tr.kwt_eq (d : Tr Ko) : d.kwt = d.a.s.length + 3 * D.sizeL d.a.d.l + Tr.kwtL d.l := by cases d; rfl
theorem Tr.kwtL_take_succ (l : List (Tr Ko)) (j : Nat) (h : j < l.length) : Tr.kwtL (l.take (j + 1)) = Tr.kwtL (l.take j) + 5 + (l[j]).kwt := by
  have key : ∀ a b : List (Tr Ko), Tr.kwtL (a ++ b) = Tr.kwtL a + Tr.kwtL b := by
    intro a b
    induction a with
    | nil => simp [Tr.kwtL]
    | cons d r ih => simp [Tr.kwtL, ih]; omega
  rw [List.take_succ_eq_append_getElem h, key]; simp [Tr.kwtL]; omega
theorem Tr.kwtL_take_le (l : List (Tr Ko)) (j : Nat) : Tr.kwtL (l.take j) ≤ Tr.kwtL l := by
  have key : ∀ a b : List (Tr Ko), Tr.kwtL (a ++ b) = Tr.kwtL a + Tr.kwtL b := by
    intro a b
    induction a with
    | nil => simp [Tr.kwtL]
    | cons d r ih => simp [Tr.kwtL, ih]; omega
  have h := key (l.take j) (l.drop j)
  rw [List.take_append_drop] at h
  omega
mutual
theorem Tr.kwt_le : ∀ d : Tr Ko, d.kwt ≤ 8 * d.bulk Ko.bulk + 3
  | .mk a _ _ l => by
    have h1 := Tr.kwtL_le l
    have h2 := D.bulk_size a.d
    have h3 := D.size_eq a.d
    simp only [Tr.kwt, Tr.bulk, Ko.bulk]; omega
theorem Tr.kwtL_le : ∀ l : List (Tr Ko), Tr.kwtL l ≤ 8 * Tr.bulkL Ko.bulk l
  | [] => Nat.le_refl _
  | d :: r => by have := Tr.kwt_le d; have := Tr.kwtL_le r; simp only [Tr.kwtL, Tr.bulkL]; omega
end
structure KoRun (w : World) (b o : Nat) (l : List (Tr Ko)) (j : Nat) (wr : World) : Prop where
  chg : Chg (b :: Ko.E.blksL (l.take j)) w wr
  row : ∀ p, o + j * 8 ≤ p → wr.cell? ⟨b, p, none⟩ = w.cell? ⟨b, p, none⟩
  fr : ∀ p, wr.frozen? ⟨b, p, none⟩ = false
theorem KoRun.step {w wr w3 w5 w7 w8 : World} {b o j : Nat} {l : List (Tr Ko)} {u0 u1 u2 u3 u4 : Value} (h : KoRun w b o l j wr) (hj : j < l.length) (hb : b < wr.heap.size) (hbn : b ∉ Ko.E.blks l[j])
    (h3 : Chg (iblk l[j].a.sA l[j].a.s) ((wr.setCell ⟨b, o + j * 8, none⟩ u0).setCell ⟨b, o + j * 8 + 1, none⟩ u1) w3)
    (h5 : Below w3.heap.size ((w3.setCell ⟨b, o + j * 8 + 3, none⟩ u2).setCell ⟨b, o + j * 8 + 4, none⟩ u3) w5)
    (h7 : Chg (D.blks l[j].a.d) (w5.setCell ⟨b, o + j * 8 + 5, none⟩ u4) w7)
    (h8 : Chg (Ko.E.lblks l[j].A l[j].l) w7 w8) : KoRun w b o l (j + 1) w8 := by
  rw [Ko.blks_all, List.mem_append, List.mem_append, not_or, not_or] at hbn
  obtain ⟨⟨n1, n2⟩, n3⟩ := hbn
  have s3 := h3.size
  have s5 := h5.size
  have s7 := h7.size
  have s8 := h8.size
  simp only [World.size_setCell] at s3 s5 s7
  have eb : Ko.E.blksL (l.take (j + 1)) = Ko.E.blksL (l.take j) ++ Ko.E.blks l[j] := by
    rw [List.take_succ_eq_append_getElem hj]; unfold Elem.blksL; rw [List.flatMap_append, List.flatMap_singleton]
  have mb : ∀ k, k ∈ iblk l[j].a.sA l[j].a.s ∨ k ∈ D.blks l[j].a.d ∨ k ∈ Ko.E.lblks l[j].A l[j].l → k ∈ b :: Ko.E.blksL (l.take (j + 1)) := by
    intro k hk
    rw [eb, Ko.blks_all]
    simp only [List.mem_cons, List.mem_append]
    rcases hk with hk | hk | hk <;> simp [hk]
  have m0 : ∀ k ∈ b :: Ko.E.blksL (l.take j), k ∈ b :: Ko.E.blksL (l.take (j + 1)) := by
    intro k hk
    rw [eb]
    simp only [List.mem_cons, List.mem_append] at hk ⊢
    rcases hk with hk | hk <;> simp [hk]
  have B0 : b ∈ b :: Ko.E.blksL (l.take (j + 1)) := by simp
  refine ⟨?_, fun p hp => ?_, fun p => ?_⟩
  · have c0 := ((h.chg.mono m0).setCell (p := ⟨b, o + j * 8, none⟩) (.inl B0) u0).setCell (p := ⟨b, o + j * 8 + 1, none⟩) (.inl B0) u1
    have c3 := c0.trans (h3.mono fun k hk => mb k (.inl hk))
    have c4 := (c3.setCell (p := ⟨b, o + j * 8 + 3, none⟩) (.inl B0) u2).setCell (p := ⟨b, o + j * 8 + 4, none⟩) (.inl B0) u3
    have c5 := c4.trans (Chg.of_below (by simpa using h5))
    have c7 := (c5.setCell (p := ⟨b, o + j * 8 + 5, none⟩) (.inl B0) u4).trans (h7.mono fun k hk => mb k (.inr (.inl hk)))
    exact c7.trans (h8.mono fun k hk => mb k (.inr (.inr hk)))
  · rw [World.cell?_of_block (a := ⟨b, p, none⟩) (h8.block b (by omega) n3), World.cell?_of_block (a := ⟨b, p, none⟩) (h7.block b (by simp; omega) n2), icell_ne _ _ _ _ _ (by omega), h5.cell (p := ⟨b, p, none⟩) (show b < _ by omega), icell_ne _ _ _ _ _ (by omega), icell_ne _ _ _ _ _ (by omega),
      World.cell?_of_block (a := ⟨b, p, none⟩) (h3.block b (by simp; omega) n1), icell_ne _ _ _ _ _ (by omega), icell_ne _ _ _ _ _ (by omega)]
    exact h.row p (by omega)
  · rw [World.frozen?_of_block (a := ⟨b, p, none⟩) (h8.block b (by omega) n3), World.frozen?_of_block (a := ⟨b, p, none⟩) (h7.block b (by simp; omega) n2), World.frozen?_setCell, h5.frozen (p := ⟨b, p, none⟩) (show b < _ by omega), World.frozen?_setCell, World.frozen?_setCell,
      World.frozen?_of_block (a := ⟨b, p, none⟩) (h3.block b (by simp; omega) n1), World.frozen?_setCell, World.frozen?_setCell]
    exact h.fr p
def KoMarkLOk (m : Nat) : Prop := ∀ (A : Option Addr) (c : Nat) (l : List (Tr Ko)) (lo hi : Nat) (w : World) (q : Int), Tr.sizeL l ≤ m → Tr.bulkL Ko.bulk l ≤ 1500000 → 0 ≤ q → q + Tr.kwtL l ≤ 100000000 → Ko.E.LOwn lo hi w A c l → hi ≤ w.heap.size →
    Calls Tryz.prog 60 #[.slice A l.length c, .int .i64 q] w fun e w' => e = .returned (.int .i64 (q + Tr.kwtL l)) ∧ Chg (Ko.E.lblks A l) w w'
set_option maxRecDepth 100000 in
set_option maxHeartbeats 4000000 in
theorem Ko_markL_step (m : Nat) (ih : ∀ m', m' < m → KoMarkLOk m') : KoMarkLOk m := by
  intro A c l lo hi w q hm hbk hq0 hq hown hhi
  have hcap := hown.inn.cap
  by_cases hl : l = []
  · subst hl
    go_enter Tryz.func60, Tryz.ntmps60
    go_wp2_with fail
    go_loopw [1, 5] (fun v i wr => v = .int .i64 q ∧ i = .int .i64 0 ∧ wr = w) (fun _ _ _ => 0)
    case atStart => exact ⟨rfl, rfl, rfl⟩
    case round =>
      obtain ⟨rfl, rfl, rfl⟩ := hrel
      go_wp2_with fail
      go_ret
      exact ⟨ret_int (by simp [Tr.kwtL]), Chg.refl _ _⟩
  · obtain ⟨b, o, rfl, hbhi, hcells⟩ := hown.inn.mem hl
    have hlb : Ko.E.lblks (some ⟨b, o, none⟩) l = b :: Ko.E.blksL l := by unfold Elem.lblks; rw [Elem.lblk_some hl]; rfl
    have hfz : ∀ p, w.frozen? ⟨b, p, none⟩ = false := hown.fr b (by rw [hlb]; simp)
    have Hlb := Lib.hid hlb
    clear hlb
    go_enter Tryz.func60, Tryz.ntmps60
    go_wp2_with fail
    go_loopw [1, 5] (fun v i wr => ∃ j : Nat, j ≤ l.length ∧ i = .int .i64 j ∧ v = .int .i64 (q + (Tr.kwtL (l.take j) : Int)) ∧ KoRun w b o l j wr) (fun _ i _ => l.length - (intOf i).toNat)
    case atStart => exact ⟨0, Nat.zero_le _, rfl, by simp [Tr.kwtL], Chg.refl _ _, fun _ _ => rfl, hfz⟩
    case round =>
      obtain ⟨j, hj, rfl, rfl, hr⟩ := hrel
      have hs2 := hr.chg.size
      by_cases hlt : j < l.length
      · obtain ⟨b', o', e, hblk, c0, c1, c2, c3, c4, c5, c6, c7, hix⟩ := Ko.at_ hown.inn (i := j) (x := l[j]) (List.getElem?_eq_getElem hlt)
        obtain ⟨rfl, rfl, _⟩ := Addr.mk.inj (Option.some.inj e)
        clear e hix
        have hsz := Tr.sizeL_mem (l := l) (List.getElem_mem hlt)
        have hbk1 := Tr.bulkL_mem (f := Ko.bulk) (l := l) (List.getElem_mem hlt)
        have hsq := Tr.size_eq l[j]
        have hbq := Tr.bulk_eq Ko.bulk l[j]
        have hbd := D.bulk_size l[j].a.d
        have hds := D.size_eq l[j].a.d
        have hkb : Ko.bulk l[j].a = l[j].a.s.length + l[j].a.d.bulk := rfl
        have hw1 := Tr.kwtL_take_succ l j hlt
        have hw2 := Tr.kwtL_take_le l (j + 1)
        have hw3 := Tr.kwt_eq l[j]
        have hsplit : l = l.take j ++ l[j] :: l.drop (j + 1) := by rw [← List.drop_eq_getElem_cons hlt, List.take_append_drop]
        have hmid := hown
        rw [hsplit] at hmid
        obtain ⟨hox, hbx⟩ := hmid.mid
        have hbx := hbx b o rfl
        have hdis : ∀ k ∈ Ko.E.blks l[j], k ∉ b :: Ko.E.blksL (l.take j) := by
          intro k hk hm
          rcases List.mem_cons.1 hm with rfl | hm
          · exact hbx hk
          · have hnd := hmid.nd
            have hnd2 := (List.nodup_append.1 hnd).2.1
            simp only [Elem.blksL, List.flatMap_append, List.flatMap_cons] at hnd2 hm
            exact (List.nodup_append.1 hnd2).2.2 k hm k (by simp [hk]) rfl
        clear hmid hsplit
        have hor : Ko.E.Own lo hi wr l[j] := hox.keepB fun k hk => hr.chg.block k (by have := hox.inn.blk_lt k hk; omega) (hdis k hk)
        obtain ⟨hoh, hol, hdj⟩ := Ko.own_parts hor
        obtain ⟨hos, hod, hsd⟩ := Ko.head_parts hoh
        have nb1 : b ∉ iblk l[j].a.sA l[j].a.s := fun h => hbx (by rw [Ko.blks_all]; simp [h])
        have nb2 : b ∉ D.blks l[j].a.d := fun h => hbx (by rw [Ko.blks_all]; simp [h])
        have rc := hr.row
        have r0 := (rc (o + j * 8) (by omega)).trans c0
        have r1 := (rc (o + j * 8 + 1) (by omega)).trans c1
        have r2 := (rc (o + j * 8 + 2) (by omega)).trans c2
        have r3 := (rc (o + j * 8 + 3) (by omega)).trans c3
        have r4 := (rc (o + j * 8 + 4) (by omega)).trans c4
        have r5 := (rc (o + j * 8 + 5) (by omega)).trans c5
        have r6 := (rc (o + j * 8 + 6) (by omega)).trans c6
        have r7 := (rc (o + j * 8 + 7) (by omega)).trans c7
        have f0 := hr.fr (o + j * 8)
        have f1 := hr.fr (o + j * 8 + 1)
        have lb : b < wr.heap.size := by omega
        clear rc c0 c1 c2 c3 c4 c5 c6 c7 hox
        have HR := Lib.hid hr
        have HFZ := Lib.hid hfz
        have HBX := Lib.hid hbx
        clear hr hfz hbx hdis
        go_wp2_with fail
        refine (markI_any l[j].a.sA l[j].a.sC l[j].a.s lo hi _ _ (by omega) (by omega) (by omega) (hos.keep fun k hk => ?_)).mono ?_
        · have hne : k ≠ b := fun e => nb1 (e ▸ hk)
          rw [Below.heap_setCell _ _ _ _ hne, Below.heap_setCell _ _ _ _ hne]
        rintro e w3 ⟨rfl, _, h3⟩
        have z3 := h3.size
        simp only [World.size_setCell] at z3
        have cb : ∀ p, p ≠ o + j * 8 → p ≠ o + j * 8 + 1 → w3.cell? ⟨b, p, none⟩ = wr.cell? ⟨b, p, none⟩ := fun p p0 p1 => by
          rw [World.cell?_of_block (a := ⟨b, p, none⟩) (h3.block b (by simp; omega) nb1), icell_ne _ _ _ _ _ p1, icell_ne _ _ _ _ _ p0]
        have fb : ∀ p, w3.frozen? ⟨b, p, none⟩ = false := fun p => by
          rw [World.frozen?_of_block (a := ⟨b, p, none⟩) (h3.block b (by simp; omega) nb1), World.frozen?_setCell, World.frozen?_setCell]; exact HR.out.fr p
        have t3 := (cb (o + j * 8 + 3) (by omega) (by omega)).trans r3
        have t4 := (cb (o + j * 8 + 4) (by omega) (by omega)).trans r4
        have t5 := (cb (o + j * 8 + 5) (by omega) (by omega)).trans r5
        have t6 := (cb (o + j * 8 + 6) (by omega) (by omega)).trans r6
        have t7 := (cb (o + j * 8 + 7) (by omega) (by omega)).trans r7
        have g3 := fb (o + j * 8 + 3)
        have g4 := fb (o + j * 8 + 4)
        have H3 := Lib.hid h3
        have FB := Lib.hid fb
        clear h3 cb fb r0 r1 r2 r3 r4 r5 r6 r7 f0 f1
        go_wp2_with fail
        refine (markText_any _ _ (by omega)).mono ?_
        rintro e w5 ⟨rfl, h5⟩
        have z5 := h5.size
        simp only [World.size_setCell] at z5 h5
        have cb : ∀ p, p ≠ o + j * 8 + 3 → p ≠ o + j * 8 + 4 → w5.cell? ⟨b, p, none⟩ = w3.cell? ⟨b, p, none⟩ := fun p p0 p1 => by
          rw [h5.cell (p := ⟨b, p, none⟩) (show b < _ by omega), icell_ne _ _ _ _ _ p1, icell_ne _ _ _ _ _ p0]
        have v5 := (cb (o + j * 8 + 5) (by omega) (by omega)).trans t5
        have v6 := (cb (o + j * 8 + 6) (by omega) (by omega)).trans t6
        have v7 := (cb (o + j * 8 + 7) (by omega) (by omega)).trans t7
        have g5 : w5.frozen? ⟨b, o + j * 8 + 5, none⟩ = false := by rw [h5.frozen (p := ⟨b, o + j * 8 + 5, none⟩) (show b < _ by omega), World.frozen?_setCell, World.frozen?_setCell]; exact FB.out _
        have H5 := Lib.hid h5
        clear h5 cb t3 t4 t5 t6 t7 g3 g4
        go_wp2_with fail
        refine (mark_any (D.sizeL l[j].a.d.l) l[j].a.d lo hi _ _ (Nat.le_refl _) (by omega) (by omega) (by omega) (hod.keepB fun k hk => ?_) (by simp; omega)).mono ?_
        · have hne : k ≠ b := fun e => nb2 (e ▸ hk)
          have hklt := hod.inn.blk_lt k hk
          rw [Below.heap_setCell _ _ _ _ hne, H5.out.block k (by omega), Below.heap_setCell _ _ _ _ hne, Below.heap_setCell _ _ _ _ hne, H3.out.block k (by simp; omega) (fun h => hsd k h hk), Below.heap_setCell _ _ _ _ hne, Below.heap_setCell _ _ _ _ hne]
        rintro e w7 ⟨rfl, _, h7⟩
        have z7 := h7.size
        simp only [World.size_setCell] at z7
        have x7 : w7.cell? ⟨b, o + j * 8 + 7, none⟩ = some (.slice l[j].A l[j].l.length l[j].c) := by
          rw [World.cell?_of_block (a := ⟨b, o + j * 8 + 7, none⟩) (h7.block b (by simp; omega) nb2), icell_ne _ _ _ _ _ (by omega)]; exact v7
        have H7 := Lib.hid h7
        clear h7 v5 v6 v7 g5
        go_wp2_with fail
        refine (ih (Tr.sizeL l[j].l) (by omega) l[j].A l[j].c l[j].l lo hi _ _ (Nat.le_refl _) (by omega) (by omega) (by omega) (hol.keepB fun k hk => ?_) (by omega)).mono ?_
        · have hk2 : k ∈ Ko.E.blks l[j] := by rw [Ko.blks_all]; simp [hk]
          have hne : k ≠ b := fun e => HBX.out (e ▸ hk2)
          have hklt := hol.inn.blk_lt k hk
          have q1 : k ∉ iblk l[j].a.sA l[j].a.s := fun h => hdj k (List.mem_append.2 (.inl h)) hk
          have q2 : k ∉ D.blks l[j].a.d := fun h => hdj k (List.mem_append.2 (.inr h)) hk
          rw [H7.out.block k (by simp; omega) q2, Below.heap_setCell _ _ _ _ hne, H5.out.block k (by omega), Below.heap_setCell _ _ _ _ hne, Below.heap_setCell _ _ _ _ hne, H3.out.block k (by simp; omega) q1, Below.heap_setCell _ _ _ _ hne, Below.heap_setCell _ _ _ _ hne]
        rintro e w8 ⟨rfl, h8⟩
        have HS := Lib.hid (KoRun.step HR.out hlt lb HBX.out H3.out H5.out H7.out h8)
        clear h8 x7
        go_wp2_with fail
        refine ⟨⟨j + 1, by omega, by go_num, by rw [hw1, hw3]; congr 1; omega, HS.out⟩, by simp [intOf]; omega⟩
      · have hj' : j = l.length := by omega
        subst hj'
        have HR := Lib.hid hr
        clear hr
        go_wp2_with fail
        go_ret
        have hc := HR.out.chg
        rw [List.take_length] at hc
        exact ⟨ret_int (by rw [List.take_length]), by rw [Hlb.out]; exact hc⟩
theorem Ko_markL_any (m : Nat) : KoMarkLOk m := by
  induction m using Nat.strongRecOn with
  | _ m ih => exact Ko_markL_step m ih
set_option maxRecDepth 100000 in
set_option maxHeartbeats 4000000 in
theorem Ko_mark_any (d : Tr Ko) (lo hi : Nat) (w : World) (q : Int) (hbk : d.bulk Ko.bulk ≤ 1500000) (hq0 : 0 ≤ q) (hq : q ≤ 1000000) (ho : Ko.E.Own lo hi w d) (hhi : hi ≤ w.heap.size) :
    Calls Tryz.prog 13 #[Ko.val d, .int .i64 q] w fun e w' => e = .returned (.int .i64 (q + d.kwt)) ∧ True ∧ Chg (Ko.E.blks d) w w' := by
  obtain ⟨hoh, hol, hdj⟩ := Ko.own_parts ho
  obtain ⟨hos, hod, hsd⟩ := Ko.head_parts hoh
  have hbq := Tr.bulk_eq Ko.bulk d
  have hkb : Ko.bulk d.a = d.a.s.length + d.a.d.bulk := rfl
  have hbd := D.bulk_size d.a.d
  have hds := D.size_eq d.a.d
  have hw3 := Tr.kwt_eq d
  have hwl := Tr.kwt_le d
  have eb := Ko.blks_all d
  unfold Ko.val
  obtain ⟨W, hW⟩ : ∃ W, W = w.alloc (.cells #[.int .i64 d.a.k, .int .i64 d.a.n, .slice d.a.sA d.a.s.length d.a.sC, .int .i64 d.a.d.k, .int .i64 d.a.d.n, .string d.a.d.t, .slice d.a.d.A d.a.d.l.length d.a.d.c, .slice d.A d.l.length d.c] 35) := ⟨_, rfl⟩
  have b0 : Below w.heap.size w W := by rw [hW]; exact (Below.refl _ _).alloc (Nat.le_refl _) _
  have zW : W.heap.size = w.heap.size + 1 := by rw [hW]; simp
  have X0 : Ko.Box W w.heap.size d := by rw [hW]; exact Ko.Box.new _ _ _
  have hos := hos.below (b0.mono hhi)
  have hod := hod.below (b0.mono hhi)
  have hol := hol.below (b0.mono hhi)
  have X0q := X0
  obtain ⟨a0, a1, a2, a3, a4, a5, a6, a7⟩ := X0q
  go_enter Tryz.func13, Tryz.ntmps13
  go_wp2_with fail
  rw [← hW]
  clear hW a0 a1 a2 a3 a4 a5 a6 a7
  refine (markI_any d.a.sA d.a.sC d.a.s lo hi _ _ (by omega) (by omega) (by omega) hos).mono ?_
  rintro e w3 ⟨rfl, _, h3⟩
  have z3 := h3.size
  have n1 : w.heap.size ∉ iblk d.a.sA d.a.s := fun h => by have := hos.inn.blk_lt _ h; omega
  have n2 : w.heap.size ∉ D.blks d.a.d := fun h => by have := hod.inn.blk_lt _ h; omega
  have X3 := X0.chg h3 (by omega) n1
  have hod3 := hod.keepB fun k hk => h3.block k (by have := hod.inn.blk_lt k hk; omega) (fun h => hsd k h hk)
  have hol3 := hol.keepB fun k hk => h3.block k (by have := hol.inn.blk_lt k hk; omega) (fun h => hdj k (List.mem_append.2 (.inl h)) hk)
  have X3q := X3
  obtain ⟨a0, a1, a2, a3, a4, a5, a6, a7⟩ := X3q
  have H3 := Lib.hid h3
  clear h3
  go_wp2_with fail
  clear a0 a1 a2 a3 a4 a5 a6 a7
  refine (markD_any d.a.d lo hi _ _ (by omega) (by omega) (by omega) hod3 (by omega)).mono ?_
  rintro e w7 ⟨rfl, _, h7⟩
  have z7 := h7.size
  have X7 := X3.chg h7 (by omega) n2
  have hol7 := hol3.keepB fun k hk => h7.block k (by have := hol3.inn.blk_lt k hk; omega) (fun h => hdj k (List.mem_append.2 (.inr h)) hk)
  have X7q := X7
  obtain ⟨a0, a1, a2, a3, a4, a5, a6, a7⟩ := X7q
  have H7 := Lib.hid h7
  clear h7
  go_wp2_with fail
  clear a0 a1 a2 a3 a4 a5 a6 a7
  refine (Ko_markL_any _ d.A d.c d.l lo hi _ _ (Nat.le_refl _) (by omega) (by omega) (by omega) hol7 (by omega)).mono ?_
  rintro e w8 ⟨rfl, h8⟩
  have H8 := Lib.hid h8
  clear h8
  go_wp2_with fail
  go_ret
  refine ⟨ret_int (by omega), trivial, ?_⟩
  rw [eb]
  refine (Chg.of_below b0).trans ((H3.out.mono fun k hk => ?_).trans ((H7.out.mono fun k hk => ?_).trans (H8.out.mono fun k hk => ?_))) <;> simp [hk]
end Go.Proofs.YtpigpncbjckbcaaGreat
namespace Go.Proofs.YtpigpncbjckbcaaGreat
open Go.RowKit
mutual
def Tr.kmk : Tr Ko → Int → Tr Ko
  | .mk a A c l, q => .mk ⟨q, q + 1, a.sA, a.sC, markI a.s (q + 2), .mk (q + 2 + a.s.length) (q + 3 + a.s.length) (markB (q + 4 + a.s.length)) a.d.A a.d.c (D.markL a.d.l (q + 5 + a.s.length))⟩ A c (Tr.kmkL l (q + 5 + a.s.length + 3 * D.sizeL a.d.l))
def Tr.kmkL : List (Tr Ko) → Int → List (Tr Ko) | [], _ => [] | d :: r, q => Tr.kmk d q :: Tr.kmkL r (q + (5 + Tr.kwt d : Nat))
end
theorem Tr.kmkL_length (l : List (Tr Ko)) : ∀ q, (Tr.kmkL l q).length = l.length := by
  induction l with
  | nil => intro q; rfl
  | cons d r ih => intro q; simp [Tr.kmkL, ih]
theorem Tr.kmkL_append (a b : List (Tr Ko)) : ∀ q, Tr.kmkL (a ++ b) q = Tr.kmkL a q ++ Tr.kmkL b (q + (Tr.kwtL a : Nat)) := by
  induction a with
  | nil => intro q; simp [Tr.kmkL, Tr.kwtL]
  | cons d r ih =>
    intro q
    have e : q + ((5 + Tr.kwt d : Nat) : Int) + ((Tr.kwtL r : Nat) : Int) = q + ((5 + Tr.kwt d + Tr.kwtL r : Nat) : Int) := by omega
    simp only [List.cons_append, Tr.kmkL, Tr.kwtL, ih, e]
theorem D.blks_marked (d : D) (k n : Int) (t : ByteArray) (q : Int) : D.blks (.mk k n t d.A d.c (D.markL d.l q)) = D.blks d := by
  cases d with
  | mk k' n' t' A c l => simp only [D.blks, D.A, D.l, D.blksL_mark]; congr 2; cases l <;> rfl
theorem Ko.lblk_kmk (A : Option Addr) (l : List (Tr Ko)) (q : Int) : Elem.lblk A (Tr.kmkL l q) = Elem.lblk A l := by cases l <;> rfl
theorem Ko.blks_kmk (d : Tr Ko) : ∀ q, Ko.E.blks (d.kmk q) = Ko.E.blks d := by
  induction d using Tr.ind with
  | h d ih =>
    cases d with
    | mk a A c l =>
      intro q
      have key : ∀ l' : List (Tr Ko), (∀ x ∈ l', x ∈ l) → ∀ q, Ko.E.blksL (Tr.kmkL l' q) = Ko.E.blksL l' := by
        intro l'
        induction l' with
        | nil => intro _ q; rfl
        | cons x r ih2 =>
          intro hs q
          have h1 := ih x (hs x (by simp)) q
          have h2 := ih2 (fun y hy => hs y (by simp [hy])) (q + (5 + Tr.kwt x : Nat))
          simp only [Elem.blksL] at h2 ⊢
          simp only [Tr.kmkL, List.flatMap_cons, h1, h2]
      rw [Ko.blks_all, Ko.blks_all]
      simp only [Tr.kmk, Tr.a, Tr.A, Tr.l, iblk_mark, D.blks_marked, Elem.lblks, key l (fun _ h => h), Ko.lblk_kmk]
theorem Ko.blksL_kmk (l : List (Tr Ko)) : ∀ q, Ko.E.blksL (Tr.kmkL l q) = Ko.E.blksL l := by
  induction l with
  | nil => intro q; rfl
  | cons x r ih =>
    intro q
    have h2 := ih (q + (5 + Tr.kwt x : Nat))
    simp only [Elem.blksL] at h2 ⊢
    simp only [Tr.kmkL, List.flatMap_cons, Ko.blks_kmk, h2]
theorem Ko.lblks_kmk (A : Option Addr) (l : List (Tr Ko)) (q : Int) : Ko.E.lblks A (Tr.kmkL l q) = Ko.E.lblks A l := by
  unfold Elem.lblks; rw [Ko.blksL_kmk, Ko.lblk_kmk]
theorem wf_mark {v : Int} (h0 : 0 ≤ v) (h1 : v < 9000000000) : (Lit.int .i64 v).wf = true := by
  show (decide (-9223372036854775808 ≤ v) && decide (v ≤ 9223372036854775807)) = true
  rw [Bool.and_eq_true, decide_eq_true_eq, decide_eq_true_eq]
  omega
theorem markI_wf : ∀ (l : List Int) (q : Int), 0 ≤ q → q + l.length ≤ 1000000000 → ∀ i ∈ markI l q, (Lit.int .i64 i).wf = true
  | [], _, _, _, _, h => by simp [markI] at h
  | _ :: r, q, h0, h1, i, h => by
    simp only [markI, List.mem_cons, List.length_cons] at h h1
    rcases h with rfl | h
    · exact wf_mark h0 (by omega)
    · exact markI_wf r (q + 1) (by omega) (by omega) i h
theorem Ko.own_marked {lo hi : Nat} {w0 w : World} {x : Tr Ko} {Q : Int} (h : Ko.E.Own lo hi w0 x) (hQ : 0 ≤ Q) (hQ1 : Q + 5 + x.kwt ≤ 100000000)
    (hs : IOwn lo hi w x.a.sA x.a.sC (markI x.a.s (Q + 2))) (hd : (D.mk x.a.d.k x.a.d.n x.a.d.t x.a.d.A x.a.d.c (D.markL x.a.d.l (Q + 5 + x.a.s.length))).Own lo hi w)
    (hl : Ko.E.LOwn lo hi w x.A x.c (Tr.kmkL x.l (Q + 5 + x.a.s.length + 3 * D.sizeL x.a.d.l))) : Ko.E.Own lo hi w (x.kmk Q) := by
  have eb := Ko.blks_kmk x Q
  have ea := Ko.blks_all x
  have hw := Tr.kwt_eq x
  have hd' := hd.head (k' := Q + 2 + x.a.s.length) (n' := Q + 3 + x.a.s.length) (t' := markB (Q + 4 + x.a.s.length)) (by have := markB_size (Q + 4 + x.a.s.length) (by omega); omega)
  obtain ⟨a, A, c, l⟩ := x
  simp only [Tr.a, Tr.A, Tr.c, Tr.l] at *
  refine ⟨?_, fun b hb => h.lo_ b (by rwa [← eb]), by rw [eb]; exact h.nd, fun b hb o => ?_⟩
  · exact Tr.in_iff.2 ⟨⟨hs.inn, hd'.inn, ⟨wf_mark (v := Q + 1) (by omega) (by omega), fun i hi => markI_wf a.s (Q + 2) (by omega) (by omega) i hi⟩⟩, hl.inn⟩
  · rw [eb, ea, List.mem_append, List.mem_append] at hb
    rcases hb with (hb | hb) | hb
    · exact hs.fr b (by rw [iblk_mark]; exact hb) o
    · exact hd.fr b (by rw [D.blks_marked]; exact hb) o
    · exact hl.fr b (by rw [Ko.lblks_kmk]; exact hb) o
structure KoRunF (w : World) (lo hi b o c : Nat) (l : List (Tr Ko)) (q : Int) (j : Nat) (wr : World) : Prop where
  own : Ko.E.LOwn lo hi wr (some ⟨b, o, none⟩) c (Tr.kmkL (l.take j) q ++ l.drop j)
  chg : Chg (b :: Ko.E.blksL l) w wr
theorem KoRunF.step {w wr w3 w5 w7 w8 : World} {lo hi b o c j : Nat} {l : List (Tr Ko)} {q Q u1 um u3 u4 u5 ud uk : Int} (h : KoRunF w lo hi b o c l q j wr) (hj : j < l.length) (hhi : hi ≤ wr.heap.size)
    (hQ : Q = q + (Tr.kwtL (l.take j) : Nat)) (hQ0 : 0 ≤ Q) (hQ1 : Q + 5 + l[j].kwt ≤ 100000000)
    (h3 : Chg (iblk l[j].a.sA l[j].a.s) ((wr.setCell ⟨b, o + j * 8, none⟩ (.int .i64 Q)).setCell ⟨b, o + j * 8 + 1, none⟩ (.int .i64 u1)) w3)
    (m3 : IOwn lo hi w3 l[j].a.sA l[j].a.sC (markI l[j].a.s um))
    (h5 : Below w3.heap.size ((w3.setCell ⟨b, o + j * 8 + 3, none⟩ (.int .i64 u3)).setCell ⟨b, o + j * 8 + 4, none⟩ (.int .i64 u4)) w5)
    (h7 : Chg (D.blks l[j].a.d) (w5.setCell ⟨b, o + j * 8 + 5, none⟩ (.string (markB u5))) w7)
    (m7 : (D.mk l[j].a.d.k l[j].a.d.n l[j].a.d.t l[j].a.d.A l[j].a.d.c (D.markL l[j].a.d.l ud)).Own lo hi w7)
    (h8 : Chg (Ko.E.lblks l[j].A l[j].l) w7 w8) (m8 : Ko.E.LOwn lo hi w8 l[j].A l[j].c (Tr.kmkL l[j].l uk))
    (e1 : u1 = Q + 1) (em : um = Q + 2) (e3 : u3 = Q + 2 + l[j].a.s.length) (e4 : u4 = Q + 3 + l[j].a.s.length) (e5 : u5 = Q + 4 + l[j].a.s.length) (ed : ud = Q + 5 + l[j].a.s.length) (ek : uk = Q + 5 + l[j].a.s.length + 3 * D.sizeL l[j].a.d.l) : KoRunF w lo hi b o c l q (j + 1) w8 := by
  subst e1 em e3 e4 e5 ed ek
  obtain ⟨x, hxe⟩ : ∃ x, l[j] = x := ⟨_, rfl⟩
  have hdrop : l.drop j = x :: l.drop (j + 1) := by rw [List.drop_eq_getElem_cons hj, hxe]
  have htake : l.take (j + 1) = l.take j ++ [x] := by rw [List.take_succ_eq_append_getElem hj, hxe]
  have hlen : (Tr.kmkL (l.take j) q).length = j := by rw [Tr.kmkL_length, List.length_take]; omega
  rw [hxe] at hQ1 h3 m3 h5 h7 m7 h8 m8
  obtain ⟨ho, hc⟩ := h
  rw [hdrop] at ho
  obtain ⟨hox, hbx⟩ := ho.mid
  have hbx := hbx b o rfl
  obtain ⟨b', o', e, hblk, c0, c1, c2, c3, c4, c5, c6, c7, hix⟩ := Ko.at_ ho.inn (i := j) (x := x) (by rw [List.getElem?_append_right (by omega), hlen]; simp)
  obtain ⟨rfl, rfl, _⟩ := Addr.mk.inj (Option.some.inj e)
  obtain ⟨hoh, hol, hdj⟩ := Ko.own_parts hox
  obtain ⟨hos, hod, hsd⟩ := Ko.head_parts hoh
  have eb := Ko.blks_all x
  have n1 : b ∉ iblk x.a.sA x.a.s := fun h => hbx (by rw [eb]; simp [h])
  have n2 : b ∉ D.blks x.a.d := fun h => hbx (by rw [eb]; simp [h])
  have n3 : b ∉ Ko.E.lblks x.A x.l := fun h => hbx (by rw [eb]; simp [h])
  have s3 := h3.size
  have s5 := h5.size
  have s7 := h7.size
  have s8 := h8.size
  simp only [World.size_setCell] at s3 s5 s7
  have lb : b < wr.heap.size := by omega
  have k8 : ∀ p, w8.cell? ⟨b, p, none⟩ = (w5.setCell ⟨b, o + j * 8 + 5, none⟩ (.string (markB (Q + 4 + x.a.s.length)))).cell? ⟨b, p, none⟩ := fun p => by
    rw [World.cell?_of_block (a := ⟨b, p, none⟩) (h8.block b (by omega) n3), World.cell?_of_block (a := ⟨b, p, none⟩) (h7.block b (by simp; omega) n2)]
  have k5 : ∀ p, w5.cell? ⟨b, p, none⟩ = ((w3.setCell ⟨b, o + j * 8 + 3, none⟩ (.int .i64 (Q + 2 + x.a.s.length))).setCell ⟨b, o + j * 8 + 4, none⟩ (.int .i64 (Q + 3 + x.a.s.length))).cell? ⟨b, p, none⟩ := fun p => h5.cell (p := ⟨b, p, none⟩) (show b < _ by omega)
  have k3 : ∀ p, w3.cell? ⟨b, p, none⟩ = ((wr.setCell ⟨b, o + j * 8, none⟩ (.int .i64 Q)).setCell ⟨b, o + j * 8 + 1, none⟩ (.int .i64 (Q + 1))).cell? ⟨b, p, none⟩ := fun p => World.cell?_of_block (a := ⟨b, p, none⟩) (h3.block b (by simp; omega) n1)
  have t3 : w3.cell? ⟨b, o + j * 8 + 3, none⟩ = some (.int .i64 x.a.d.k) := by rw [k3, icell_ne _ _ _ _ _ (by omega), icell_ne _ _ _ _ _ (by omega)]; exact c3
  have t4 : w3.cell? ⟨b, o + j * 8 + 4, none⟩ = some (.int .i64 x.a.d.n) := by rw [k3, icell_ne _ _ _ _ _ (by omega), icell_ne _ _ _ _ _ (by omega)]; exact c4
  have t5 : w5.cell? ⟨b, o + j * 8 + 5, none⟩ = some (.string x.a.d.t) := by rw [k5, icell_ne _ _ _ _ _ (by omega), icell_ne _ _ _ _ _ (by omega), k3, icell_ne _ _ _ _ _ (by omega), icell_ne _ _ _ _ _ (by omega)]; exact c5
  have ms3 : IOwn lo hi w8 x.a.sA x.a.sC (markI x.a.s (Q + 2)) := m3.keep fun k hk => by
    rw [iblk_mark] at hk
    have hklt := hos.inn.blk_lt k hk
    have hne : k ≠ b := fun e => n1 (e ▸ hk)
    rw [h8.block k (by omega) (fun h => hdj k (List.mem_append.2 (.inl hk)) h), h7.block k (by simp; omega) (fun h => hsd k hk h), Below.heap_setCell _ _ _ _ hne, h5.block k (by omega), Below.heap_setCell _ _ _ _ hne, Below.heap_setCell _ _ _ _ hne]
  have ms7 : (D.mk x.a.d.k x.a.d.n x.a.d.t x.a.d.A x.a.d.c (D.markL x.a.d.l (Q + 5 + x.a.s.length))).Own lo hi w8 := m7.keepB fun k hk => by
    rw [D.blks_marked] at hk
    have hklt := hod.inn.blk_lt k hk
    exact h8.block k (by omega) (fun h => hdj k (List.mem_append.2 (.inr hk)) h)
  have hown := Ko.own_marked hox hQ0 hQ1 ms3 ms7 m8
  have hkb : ∀ k, k < wr.heap.size → k ≠ b → k ∉ Ko.E.blks x → w8.heap[k]? = wr.heap[k]? := fun k hk hne hn => by
    rw [eb, List.mem_append, List.mem_append, not_or, not_or] at hn
    rw [h8.block k (by omega) hn.2, h7.block k (by simp; omega) hn.1.2, Below.heap_setCell _ _ _ _ hne, h5.block k (by omega), Below.heap_setCell _ _ _ _ hne, Below.heap_setCell _ _ _ _ hne, h3.block k (by simp; omega) hn.1.1, Below.heap_setCell _ _ _ _ hne, Below.heap_setCell _ _ _ _ hne]
  have hfb : ∀ p, w8.frozen? ⟨b, p, none⟩ = wr.frozen? ⟨b, p, none⟩ := fun p => by
    rw [World.frozen?_of_block (a := ⟨b, p, none⟩) (h8.block b (by omega) n3), World.frozen?_of_block (a := ⟨b, p, none⟩) (h7.block b (by simp; omega) n2), World.frozen?_setCell, h5.frozen (p := ⟨b, p, none⟩) (show b < _ by omega), World.frozen?_setCell, World.frozen?_setCell,
      World.frozen?_of_block (a := ⟨b, p, none⟩) (h3.block b (by simp; omega) n1), World.frozen?_setCell, World.frozen?_setCell]
  have hbl : b ∉ Ko.E.blksL (Tr.kmkL (l.take j) q ++ x :: l.drop (j + 1)) := by
    have := ho.nd
    unfold Elem.lblks at this
    rw [Elem.lblk_some (List.append_ne_nil_of_right_ne_nil _ (List.cons_ne_nil _ _))] at this
    exact (List.nodup_cons.1 this).1
  have hup := ho.upd (w' := w8) (y := x.kmk Q) (Ko.blks_kmk x Q) (fun p hp => ?_) (fun i u hu => ?_) hown.inn (fun k hk hn => ?_) (fun k hk p => ?_)
  · refine ⟨?_, hc.trans (?_)⟩
    · have e1 : Tr.kmkL (l.take (j + 1)) q ++ l.drop (j + 1) = Tr.kmkL (l.take j) q ++ x.kmk Q :: l.drop (j + 1) := by
        rw [htake, Tr.kmkL_append, hQ]; simp [Tr.kmkL]
      rw [e1]; exact hup
    · have mb : ∀ k, k ∈ Ko.E.blks x → k ∈ b :: Ko.E.blksL l := fun k hk => List.mem_cons_of_mem _ (Elem.blksL_mem.2 ⟨x, by rw [← hxe]; exact List.getElem_mem hj, hk⟩)
      have B0 : b ∈ b :: Ko.E.blksL l := by simp
      have g3 := ((((Chg.refl _ _).setCell (p := ⟨b, o + j * 8, none⟩) (.inl B0) (.int .i64 Q)).setCell (p := ⟨b, o + j * 8 + 1, none⟩) (.inl B0) (.int .i64 (Q + 1)))).trans (h3.mono fun k hk => mb k (by rw [eb]; simp [hk]))
      have g5 := ((g3.setCell (p := ⟨b, o + j * 8 + 3, none⟩) (.inl B0) (.int .i64 (Q + 2 + x.a.s.length))).setCell (p := ⟨b, o + j * 8 + 4, none⟩) (.inl B0) (.int .i64 (Q + 3 + x.a.s.length))).trans (Chg.of_below (by simpa using h5))
      have g7 := (g5.setCell (p := ⟨b, o + j * 8 + 5, none⟩) (.inl B0) (.string (markB (Q + 4 + x.a.s.length)))).trans (h7.mono fun k hk => mb k (by rw [eb]; simp [hk]))
      exact g7.trans (h8.mono fun k hk => mb k (by rw [eb]; simp [hk]))
  · rw [hlen, Ko.E_n] at hp
    rw [k8, icell_ne _ _ _ _ _ (by omega), k5, icell_ne _ _ _ _ _ (by omega), icell_ne _ _ _ _ _ (by omega), k3, icell_ne _ _ _ _ _ (by omega), icell_ne _ _ _ _ _ (by omega)]
  · rw [hlen, Ko.E_n]
    have hi8 : i < 8 := by
      have h1 := (List.getElem?_eq_some_iff.1 hu).1
      have h2 := Ko.E.len (x.kmk Q)
      rw [h2, Ko.E_n] at h1; exact h1
    have ex : x.kmk Q = .mk ⟨Q, Q + 1, x.a.sA, x.a.sC, markI x.a.s (Q + 2), .mk (Q + 2 + x.a.s.length) (Q + 3 + x.a.s.length) (markB (Q + 4 + x.a.s.length)) x.a.d.A x.a.d.c (D.markL x.a.d.l (Q + 5 + x.a.s.length))⟩ x.A x.c (Tr.kmkL x.l (Q + 5 + x.a.s.length + 3 * D.sizeL x.a.d.l)) := by cases x; rfl
    have ec : Ko.E.cells (x.kmk Q) = [.int .i64 Q, .int .i64 (Q + 1), .slice x.a.sA x.a.s.length x.a.sC, .int .i64 (Q + 2 + x.a.s.length), .int .i64 (Q + 3 + x.a.s.length), .string (markB (Q + 4 + x.a.s.length)), .slice x.a.d.A x.a.d.l.length x.a.d.c, .slice x.A x.l.length x.c] := by
      rw [ex]; show Ko.cells _ ++ _ = _
      simp only [Ko.cells, Tr.a, Tr.A, Tr.c, Tr.l, D.k, D.n, D.t, D.A, D.c, D.l, markI_length, D.markL_length, Tr.kmkL_length, List.cons_append, List.nil_append]
    rw [ec] at hu
    have e8 : i = 0 ∨ i = 1 ∨ i = 2 ∨ i = 3 ∨ i = 4 ∨ i = 5 ∨ i = 6 ∨ i = 7 := by omega
    rcases e8 with rfl | rfl | rfl | rfl | rfl | rfl | rfl | rfl <;> simp at hu <;> subst hu
    · rw [k8, icell_ne _ _ _ _ _ (by omega), k5, icell_ne _ _ _ _ _ (by omega), icell_ne _ _ _ _ _ (by omega), k3, icell_ne _ _ _ _ _ (by omega), Nat.add_zero, icell_eq c0]
    · rw [k8, icell_ne _ _ _ _ _ (by omega), k5, icell_ne _ _ _ _ _ (by omega), icell_ne _ _ _ _ _ (by omega), k3, icell_eq (v := .int .i64 x.a.n) (by rw [icell_ne _ _ _ _ _ (by omega)]; exact c1)]
    · rw [k8, icell_ne _ _ _ _ _ (by omega), k5, icell_ne _ _ _ _ _ (by omega), icell_ne _ _ _ _ _ (by omega), k3, icell_ne _ _ _ _ _ (by omega), icell_ne _ _ _ _ _ (by omega)]; exact c2
    · rw [k8, icell_ne _ _ _ _ _ (by omega), k5, icell_ne _ _ _ _ _ (by omega), icell_eq t3]
    · rw [k8, icell_ne _ _ _ _ _ (by omega), k5, icell_eq (v := .int .i64 x.a.d.n) (by rw [icell_ne _ _ _ _ _ (by omega)]; exact t4)]
    · rw [k8, icell_eq t5]
    · rw [k8, icell_ne _ _ _ _ _ (by omega), k5, icell_ne _ _ _ _ _ (by omega), icell_ne _ _ _ _ _ (by omega), k3, icell_ne _ _ _ _ _ (by omega), icell_ne _ _ _ _ _ (by omega)]; exact c6
    · rw [k8, icell_ne _ _ _ _ _ (by omega), k5, icell_ne _ _ _ _ _ (by omega), icell_ne _ _ _ _ _ (by omega), k3, icell_ne _ _ _ _ _ (by omega), icell_ne _ _ _ _ _ (by omega)]; exact c7
  · have hklt : k < wr.heap.size := by
      have := ho.inn.blk_lt k (List.mem_append.2 (.inr hk)); omega
    exact hkb k hklt (fun e => hbl (e ▸ hk)) hn
  · by_cases hkx : k ∈ Ko.E.blks x
    · rw [hown.fr k (by rw [Ko.blks_kmk]; exact hkx) p]
      exact (hox.fr k hkx p).symm
    · by_cases hkb' : k = b
      · subst hkb'; exact hfb p
      · have hklt : k < wr.heap.size := by have := ho.inn.blk_lt k hk; omega
        exact World.frozen?_of_block (a := ⟨k, p, none⟩) (hkb k hklt hkb' hkx)
def KoMarkFOk (m : Nat) : Prop := ∀ (A : Option Addr) (c : Nat) (l : List (Tr Ko)) (lo hi : Nat) (w : World) (q : Int), Tr.sizeL l ≤ m → Tr.bulkL Ko.bulk l ≤ 1500000 → 0 ≤ q → q + Tr.kwtL l ≤ 100000000 → Ko.E.LOwn lo hi w A c l → hi ≤ w.heap.size →
    Calls Tryz.prog 60 #[.slice A l.length c, .int .i64 q] w fun e w' => e = .returned (.int .i64 (q + Tr.kwtL l)) ∧ Ko.E.LOwn lo hi w' A c (Tr.kmkL l q) ∧ Chg (Ko.E.lblks A l) w w'
set_option maxRecDepth 100000 in
set_option maxHeartbeats 4000000 in
theorem Ko_markF_step (m : Nat) (ih : ∀ m', m' < m → KoMarkFOk m') : KoMarkFOk m := by
  intro A c l lo hi w q hm hbk hq0 hq hown hhi
  have hcap := hown.inn.cap
  by_cases hl : l = []
  · subst hl
    go_enter Tryz.func60, Tryz.ntmps60
    go_wp2_with fail
    go_loopw [1, 5] (fun v i wr => v = .int .i64 q ∧ i = .int .i64 0 ∧ wr = w) (fun _ _ _ => 0)
    case atStart => exact ⟨rfl, rfl, rfl⟩
    case round =>
      obtain ⟨rfl, rfl, rfl⟩ := hrel
      go_wp2_with fail
      go_ret
      exact ⟨ret_int (by simp [Tr.kwtL]), hown, Chg.refl _ _⟩
  · obtain ⟨b, o, rfl, hbhi, hcells⟩ := hown.inn.mem hl
    have hlb : Ko.E.lblks (some ⟨b, o, none⟩) l = b :: Ko.E.blksL l := by unfold Elem.lblks; rw [Elem.lblk_some hl]; rfl
    have hfz : ∀ p, w.frozen? ⟨b, p, none⟩ = false := hown.fr b (by rw [hlb]; simp)
    have Hlb := Lib.hid hlb
    clear hlb
    go_enter Tryz.func60, Tryz.ntmps60
    go_wp2_with fail
    go_loopw [1, 5] (fun v i wr => ∃ (j : Nat) (Q : Int), j ≤ l.length ∧ i = .int .i64 j ∧ v = .int .i64 Q ∧ Q = q + (Tr.kwtL (l.take j) : Int) ∧ KoRunF w lo hi b o c l q j wr) (fun _ i _ => l.length - (intOf i).toNat)
    case atStart => exact ⟨0, q, Nat.zero_le _, rfl, rfl, by simp [Tr.kwtL], by simpa [Tr.kmkL] using hown, Chg.refl _ _⟩
    case round =>
      obtain ⟨j, Q, hj, rfl, rfl, hQe, hr⟩ := hrel
      have hs2 := hr.chg.size
      by_cases hlt : j < l.length
      · have hpre : (Tr.kmkL (l.take j) q).length = j := by rw [Tr.kmkL_length, List.length_take]; omega
        have hdj : l.drop j = l[j] :: l.drop (j + 1) := List.drop_eq_getElem_cons hlt
        have hw0 := hr.own
        rw [hdj] at hw0
        obtain ⟨b', o', e, hblk, r0, r1, r2, r3, r4, r5, r6, r7, hix⟩ := Ko.at_ hw0.inn (i := j) (x := l[j]) (by rw [List.getElem?_append_right (by omega), hpre]; simp)
        obtain ⟨rfl, rfl, _⟩ := Addr.mk.inj (Option.some.inj e)
        obtain ⟨hor, hbx⟩ := hw0.mid
        have hbx := hbx b o rfl
        have hfrw : ∀ p, wr.frozen? ⟨b, p, none⟩ = false := fun p => hw0.fr b (by unfold Elem.lblks; rw [Elem.lblk_some (List.append_ne_nil_of_right_ne_nil _ (List.cons_ne_nil _ _))]; simp) p
        clear e hix hpre hdj hw0
        have hsz := Tr.sizeL_mem (l := l) (List.getElem_mem hlt)
        have hbk1 := Tr.bulkL_mem (f := Ko.bulk) (l := l) (List.getElem_mem hlt)
        have hsq := Tr.size_eq l[j]
        have hbq := Tr.bulk_eq Ko.bulk l[j]
        have hbd := D.bulk_size l[j].a.d
        have hds := D.size_eq l[j].a.d
        have hkb : Ko.bulk l[j].a = l[j].a.s.length + l[j].a.d.bulk := rfl
        have hw1 := Tr.kwtL_take_succ l j hlt
        have hw2 := Tr.kwtL_take_le l (j + 1)
        have hw3 := Tr.kwt_eq l[j]
        obtain ⟨hoh, hol, hdj⟩ := Ko.own_parts hor
        obtain ⟨hos, hod, hsd⟩ := Ko.head_parts hoh
        have nb1 : b ∉ iblk l[j].a.sA l[j].a.s := fun h => hbx (by rw [Ko.blks_all]; simp [h])
        have nb2 : b ∉ D.blks l[j].a.d := fun h => hbx (by rw [Ko.blks_all]; simp [h])
        have f0 := hfrw (o + j * 8)
        have f1 := hfrw (o + j * 8 + 1)
        have lb : b < wr.heap.size := by omega
        have HR := Lib.hid hr
        have HFZ := Lib.hid hfz
        have HFW := Lib.hid hfrw
        have HBX := Lib.hid hbx
        have HQ := Lib.hid hQe
        have Q0 : 0 ≤ Q := by omega
        have Q1 : Q + 5 + l[j].kwt ≤ 100000000 := by omega
        clear hr hfz hbx hfrw hQe
        go_wp2_with fail
        refine (markI_any l[j].a.sA l[j].a.sC l[j].a.s lo hi _ _ (by omega) (by omega) (by omega) (hos.keep fun k hk => ?_)).mono ?_
        · have hne : k ≠ b := fun e => nb1 (e ▸ hk)
          rw [Below.heap_setCell _ _ _ _ hne, Below.heap_setCell _ _ _ _ hne]
        rintro e w3 ⟨rfl, m3, h3⟩
        have z3 := h3.size
        simp only [World.size_setCell] at z3
        have cb : ∀ p, p ≠ o + j * 8 → p ≠ o + j * 8 + 1 → w3.cell? ⟨b, p, none⟩ = wr.cell? ⟨b, p, none⟩ := fun p p0 p1 => by
          rw [World.cell?_of_block (a := ⟨b, p, none⟩) (h3.block b (by simp; omega) nb1), icell_ne _ _ _ _ _ p1, icell_ne _ _ _ _ _ p0]
        have fb : ∀ p, w3.frozen? ⟨b, p, none⟩ = false := fun p => by
          rw [World.frozen?_of_block (a := ⟨b, p, none⟩) (h3.block b (by simp; omega) nb1), World.frozen?_setCell, World.frozen?_setCell]; exact HFW.out p
        have t3 := (cb (o + j * 8 + 3) (by omega) (by omega)).trans r3
        have t4 := (cb (o + j * 8 + 4) (by omega) (by omega)).trans r4
        have t5 := (cb (o + j * 8 + 5) (by omega) (by omega)).trans r5
        have t6 := (cb (o + j * 8 + 6) (by omega) (by omega)).trans r6
        have t7 := (cb (o + j * 8 + 7) (by omega) (by omega)).trans r7
        have g3 := fb (o + j * 8 + 3)
        have g4 := fb (o + j * 8 + 4)
        have H3 := Lib.hid h3
        have M3 := Lib.hid m3
        clear m3
        have FB := Lib.hid fb
        clear h3 cb fb r0 r1 r2 r3 r4 r5 r6 r7 f0 f1
        go_wp2_with fail
        refine (markText_any _ _ (by omega)).mono ?_
        rintro e w5 ⟨rfl, h5⟩
        have z5 := h5.size
        simp only [World.size_setCell] at z5 h5
        have cb : ∀ p, p ≠ o + j * 8 + 3 → p ≠ o + j * 8 + 4 → w5.cell? ⟨b, p, none⟩ = w3.cell? ⟨b, p, none⟩ := fun p p0 p1 => by
          rw [h5.cell (p := ⟨b, p, none⟩) (show b < _ by omega), icell_ne _ _ _ _ _ p1, icell_ne _ _ _ _ _ p0]
        have v5 := (cb (o + j * 8 + 5) (by omega) (by omega)).trans t5
        have v6 := (cb (o + j * 8 + 6) (by omega) (by omega)).trans t6
        have v7 := (cb (o + j * 8 + 7) (by omega) (by omega)).trans t7
        have g5 : w5.frozen? ⟨b, o + j * 8 + 5, none⟩ = false := by rw [h5.frozen (p := ⟨b, o + j * 8 + 5, none⟩) (show b < _ by omega), World.frozen?_setCell, World.frozen?_setCell]; exact FB.out _
        have H5 := Lib.hid h5
        clear h5 cb t3 t4 t5 t6 t7 g3 g4
        go_wp2_with fail
        refine (mark_any (D.sizeL l[j].a.d.l) l[j].a.d lo hi _ _ (Nat.le_refl _) (by omega) (by omega) (by omega) (hod.keepB fun k hk => ?_) (by simp; omega)).mono ?_
        · have hne : k ≠ b := fun e => nb2 (e ▸ hk)
          have hklt := hod.inn.blk_lt k hk
          rw [Below.heap_setCell _ _ _ _ hne, H5.out.block k (by omega), Below.heap_setCell _ _ _ _ hne, Below.heap_setCell _ _ _ _ hne, H3.out.block k (by simp; omega) (fun h => hsd k h hk), Below.heap_setCell _ _ _ _ hne, Below.heap_setCell _ _ _ _ hne]
        rintro e w7 ⟨rfl, m7, h7⟩
        have z7 := h7.size
        simp only [World.size_setCell] at z7
        have x7 : w7.cell? ⟨b, o + j * 8 + 7, none⟩ = some (.slice l[j].A l[j].l.length l[j].c) := by
          rw [World.cell?_of_block (a := ⟨b, o + j * 8 + 7, none⟩) (h7.block b (by simp; omega) nb2), icell_ne _ _ _ _ _ (by omega)]; exact v7
        have H7 := Lib.hid h7
        have M7 := Lib.hid m7
        clear m7
        clear h7 v5 v6 v7 g5
        go_wp2_with fail
        refine (ih (Tr.sizeL l[j].l) (by omega) l[j].A l[j].c l[j].l lo hi _ _ (Nat.le_refl _) (by omega) (by omega) (by omega) (hol.keepB fun k hk => ?_) (by omega)).mono ?_
        · have hk2 : k ∈ Ko.E.blks l[j] := by rw [Ko.blks_all]; simp [hk]
          have hne : k ≠ b := fun e => HBX.out (e ▸ hk2)
          have hklt := hol.inn.blk_lt k hk
          have q1 : k ∉ iblk l[j].a.sA l[j].a.s := fun h => hdj k (List.mem_append.2 (.inl h)) hk
          have q2 : k ∉ D.blks l[j].a.d := fun h => hdj k (List.mem_append.2 (.inr h)) hk
          rw [H7.out.block k (by simp; omega) q2, Below.heap_setCell _ _ _ _ hne, H5.out.block k (by omega), Below.heap_setCell _ _ _ _ hne, Below.heap_setCell _ _ _ _ hne, H3.out.block k (by simp; omega) q1, Below.heap_setCell _ _ _ _ hne, Below.heap_setCell _ _ _ _ hne]
        rintro e w8 ⟨rfl, m8, h8⟩
        have HS := Lib.hid (KoRunF.step HR.out hlt (by omega) HQ.out Q0 Q1 H3.out M3.out H5.out H7.out M7.out h8 m8 (by omega) (by omega) (by omega) (by omega) (by omega) (by omega) (by omega))
        clear h8 m8 x7
        go_wp2_with fail
        refine ⟨⟨j + 1, _, by omega, by go_num, rfl, by rw [HQ.out, hw1, hw3]; omega, HS.out⟩, by simp [intOf]; omega⟩
      · have hj' : j = l.length := by omega
        subst hj'
        have HR := Lib.hid hr
        clear hr
        go_wp2_with fail
        go_ret
        have ho := HR.out.own
        rw [List.take_length] at ho hQe
        rw [List.drop_length, List.append_nil] at ho
        exact ⟨ret_int (by rw [hQe]), ho, by rw [Hlb.out]; exact HR.out.chg⟩
theorem Ko_markF_any (m : Nat) : KoMarkFOk m := by
  induction m using Nat.strongRecOn with
  | _ m ih => exact Ko_markF_step m ih
def Tr.kmkT (d : Tr Ko) (q : Int) : Tr Ko := .mk ⟨d.a.k, d.a.n, d.a.sA, d.a.sC, markI d.a.s q, .mk d.a.d.k d.a.d.n d.a.d.t d.a.d.A d.a.d.c (D.markL d.a.d.l (q + d.a.s.length))⟩ d.A d.c (Tr.kmkL d.l (q + d.a.s.length + 3 * D.sizeL d.a.d.l))
theorem Ko.blks_kmkT (d : Tr Ko) (q : Int) : Ko.E.blks (d.kmkT q) = Ko.E.blks d := by
  rw [Ko.blks_all, Ko.blks_all]
  simp only [Tr.kmkT, Tr.a, Tr.A, Tr.l, iblk_mark, D.blks_marked, Ko.lblks_kmk]
theorem Ko.own_markedT {lo hi : Nat} {w0 w : World} {x : Tr Ko} {q u1 u2 : Int} (h : Ko.E.Own lo hi w0 x) (hQ : 0 ≤ q) (hQ1 : q + x.kwt ≤ 100000000)
    (hs : IOwn lo hi w x.a.sA x.a.sC (markI x.a.s q)) (hd : (D.mk x.a.d.k x.a.d.n x.a.d.t x.a.d.A x.a.d.c (D.markL x.a.d.l u1)).Own lo hi w)
    (hl : Ko.E.LOwn lo hi w x.A x.c (Tr.kmkL x.l u2)) (e1 : u1 = q + x.a.s.length) (e2 : u2 = q + x.a.s.length + 3 * D.sizeL x.a.d.l) : Ko.E.Own lo hi w (x.kmkT q) := by
  subst e1 e2
  have eb := Ko.blks_kmkT x q
  have ea := Ko.blks_all x
  have hw := Tr.kwt_eq x
  have hwf := (Ko.E_in h.inn).1.wf
  refine ⟨?_, fun b hb => h.lo_ b (by rwa [← eb]), by rw [eb]; exact h.nd, fun b hb o => ?_⟩
  · exact Tr.in_iff.2 ⟨⟨hs.inn, hd.inn, ⟨hwf.1, fun i hi => markI_wf x.a.s q (by omega) (by omega) i hi⟩⟩, hl.inn⟩
  · rw [eb, ea, List.mem_append, List.mem_append] at hb
    rcases hb with (hb | hb) | hb
    · exact hs.fr b (by rw [iblk_mark]; exact hb) o
    · exact hd.fr b (by rw [D.blks_marked]; exact hb) o
    · exact hl.fr b (by rw [Ko.lblks_kmk]; exact hb) o
set_option maxRecDepth 100000 in
set_option maxHeartbeats 4000000 in
theorem Ko_markT_any (d : Tr Ko) (lo hi : Nat) (w : World) (q : Int) (hbk : d.bulk Ko.bulk ≤ 1500000) (hq0 : 0 ≤ q) (hq : q ≤ 1000000) (ho : Ko.E.Own lo hi w d) (hhi : hi ≤ w.heap.size) :
    Calls Tryz.prog 13 #[Ko.val d, .int .i64 q] w fun e w' => e = .returned (.int .i64 (q + d.kwt)) ∧ Ko.E.Own lo hi w' (d.kmkT q) ∧ Chg (Ko.E.blks d) w w' := by
  obtain ⟨hoh, hol, hdj⟩ := Ko.own_parts ho
  obtain ⟨hos, hod, hsd⟩ := Ko.head_parts hoh
  have hbq := Tr.bulk_eq Ko.bulk d
  have hkb : Ko.bulk d.a = d.a.s.length + d.a.d.bulk := rfl
  have hbd := D.bulk_size d.a.d
  have hds := D.size_eq d.a.d
  have hw3 := Tr.kwt_eq d
  have hwl := Tr.kwt_le d
  have eb := Ko.blks_all d
  unfold Ko.val
  obtain ⟨W, hW⟩ : ∃ W, W = w.alloc (.cells #[.int .i64 d.a.k, .int .i64 d.a.n, .slice d.a.sA d.a.s.length d.a.sC, .int .i64 d.a.d.k, .int .i64 d.a.d.n, .string d.a.d.t, .slice d.a.d.A d.a.d.l.length d.a.d.c, .slice d.A d.l.length d.c] 35) := ⟨_, rfl⟩
  have b0 : Below w.heap.size w W := by rw [hW]; exact (Below.refl _ _).alloc (Nat.le_refl _) _
  have zW : W.heap.size = w.heap.size + 1 := by rw [hW]; simp
  have X0 : Ko.Box W w.heap.size d := by rw [hW]; exact Ko.Box.new _ _ _
  have hos := hos.below (b0.mono hhi)
  have hod := hod.below (b0.mono hhi)
  have hol := hol.below (b0.mono hhi)
  have X0q := X0
  obtain ⟨a0, a1, a2, a3, a4, a5, a6, a7⟩ := X0q
  go_enter Tryz.func13, Tryz.ntmps13
  go_wp2_with fail
  rw [← hW]
  clear hW a0 a1 a2 a3 a4 a5 a6 a7
  refine (markI_any d.a.sA d.a.sC d.a.s lo hi _ _ (by omega) (by omega) (by omega) hos).mono ?_
  rintro e w3 ⟨rfl, m3, h3⟩
  have z3 := h3.size
  have n1 : w.heap.size ∉ iblk d.a.sA d.a.s := fun h => by have := hos.inn.blk_lt _ h; omega
  have n2 : w.heap.size ∉ D.blks d.a.d := fun h => by have := hod.inn.blk_lt _ h; omega
  have X3 := X0.chg h3 (by omega) n1
  have hod3 := hod.keepB fun k hk => h3.block k (by have := hod.inn.blk_lt k hk; omega) (fun h => hsd k h hk)
  have hol3 := hol.keepB fun k hk => h3.block k (by have := hol.inn.blk_lt k hk; omega) (fun h => hdj k (List.mem_append.2 (.inl h)) hk)
  have X3q := X3
  obtain ⟨a0, a1, a2, a3, a4, a5, a6, a7⟩ := X3q
  have H3 := Lib.hid h3
  have M3 := Lib.hid m3
  clear h3 m3
  go_wp2_with fail
  clear a0 a1 a2 a3 a4 a5 a6 a7
  refine (markD_any d.a.d lo hi _ _ (by omega) (by omega) (by omega) hod3 (by omega)).mono ?_
  rintro e w7 ⟨rfl, m7, h7⟩
  have z7 := h7.size
  have X7 := X3.chg h7 (by omega) n2
  have hol7 := hol3.keepB fun k hk => h7.block k (by have := hol3.inn.blk_lt k hk; omega) (fun h => hdj k (List.mem_append.2 (.inr h)) hk)
  have X7q := X7
  obtain ⟨a0, a1, a2, a3, a4, a5, a6, a7⟩ := X7q
  have H7 := Lib.hid h7
  have M7 := Lib.hid m7
  clear h7 m7
  go_wp2_with fail
  clear a0 a1 a2 a3 a4 a5 a6 a7
  refine (Ko_markF_any _ d.A d.c d.l lo hi _ _ (Nat.le_refl _) (by omega) (by omega) (by omega) hol7 (by omega)).mono ?_
  rintro e w8 ⟨rfl, m8, h8⟩
  have H8 := Lib.hid h8
  have M8 := Lib.hid m8
  clear h8 m8
  go_wp2_with fail
  go_ret
  have f3 : IOwn lo hi w8 d.a.sA d.a.sC (markI d.a.s q) := M3.out.keep fun k hk => by
    rw [iblk_mark] at hk
    have hklt := hos.inn.blk_lt k hk
    rw [H8.out.block k (by omega) (fun h => hdj k (List.mem_append.2 (.inl hk)) h), H7.out.block k (by omega) (fun h => hsd k hk h)]
  have f7 := M7.out.keepB (w' := w8) fun k hk => by
    rw [D.blks_marked] at hk
    have hklt := hod.inn.blk_lt k hk
    exact H8.out.block k (by omega) (fun h => hdj k (List.mem_append.2 (.inr hk)) h)
  refine ⟨ret_int (by omega), Ko.own_markedT ho hq0 (by omega) f3 f7 M8.out rfl rfl, ?_⟩
  rw [eb]
  refine (Chg.of_below b0).trans ((H3.out.mono fun k hk => ?_).trans ((H7.out.mono fun k hk => ?_).trans (H8.out.mono fun k hk => ?_))) <;> simp [hk]
end Go.Proofs.YtpigpncbjckbcaaGreat
namespace Go.Proofs.YtpigpncbjckbcaaGreat
open Go.RowKit
theorem kmkL_get (l : List (Tr Ko)) (j : Nat) (h : j < l.length) : ∀ q, (Tr.kmkL l q)[j]? = some (l[j].kmk (q + (Tr.kwtL (l.take j) : Nat))) := by
  induction l generalizing j with
  | nil => simp at h
  | cons d r ih =>
    intro q
    cases j with
    | zero => simp [Tr.kmkL, Tr.kwtL]
    | succ j =>
      simp at h
      simp only [Tr.kmkL, List.getElem?_cons_succ, List.getElem_cons_succ, List.take_succ_cons, Tr.kwtL]
      rw [ih j h]
      congr 2
      omega
theorem Ko.cells_kmk {w : World} {B : Nat} {A : Option Addr} {c : Nat} {l : List (Tr Ko)} {q Q : Int} (h : Ko.E.LIn w B A c (Tr.kmkL l q)) {j : Nat} (hj : j < l.length) (hQ : Q = q + (Tr.kwtL (l.take j) : Nat)) :
    ∃ b o : Nat, A = some ⟨b, o, none⟩ ∧ b < B ∧ w.cell? ⟨b, o + j * 8, none⟩ = some (.int .i64 Q) ∧ w.cell? ⟨b, o + j * 8 + 1, none⟩ = some (.int .i64 (Q + 1)) ∧ w.cell? ⟨b, o + j * 8 + 2, none⟩ = some (.slice l[j].a.sA l[j].a.s.length l[j].a.sC) ∧ w.cell? ⟨b, o + j * 8 + 3, none⟩ = some (.int .i64 (Q + 1 + 1 + l[j].a.s.length)) ∧ w.cell? ⟨b, o + j * 8 + 4, none⟩ = some (.int .i64 (Q + 1 + 1 + l[j].a.s.length + 1)) ∧
      w.cell? ⟨b, o + j * 8 + 5, none⟩ = some (.string (markB (Q + 1 + 1 + l[j].a.s.length + 1 + 1))) ∧ w.cell? ⟨b, o + j * 8 + 6, none⟩ = some (.slice l[j].a.d.A l[j].a.d.l.length l[j].a.d.c) ∧ w.cell? ⟨b, o + j * 8 + 7, none⟩ = some (.slice l[j].A l[j].l.length l[j].c) ∧
      IIn w B l[j].a.sA l[j].a.sC (markI l[j].a.s (Q + 1 + 1)) ∧ (D.mk 0 0 ⟨#[]⟩ l[j].a.d.A l[j].a.d.c (D.markL l[j].a.d.l (Q + 1 + 1 + l[j].a.s.length + 1 + 1 + 1))).In w B ∧ Ko.E.LIn w B l[j].A l[j].c (Tr.kmkL l[j].l (Q + 1 + 1 + l[j].a.s.length + 1 + 1 + 1 + 3 * D.sizeL l[j].a.d.l)) := by
  have hg := kmkL_get l j hj q
  rw [← hQ] at hg
  generalize l[j] = x at hg ⊢
  obtain ⟨b, o, e, hblk, c0, c1, c2, c3, c4, c5, c6, c7, hix⟩ := Ko.at_ h hg
  have e2 : Q + 1 + 1 = Q + 2 := by omega
  have e3 : Q + 2 + (x.a.s.length : Int) + 1 = Q + 3 + x.a.s.length := by omega
  have e4 : Q + 3 + (x.a.s.length : Int) + 1 = Q + 4 + x.a.s.length := by omega
  have e5 : Q + 4 + (x.a.s.length : Int) + 1 = Q + 5 + x.a.s.length := by omega
  rw [e2, e3, e4, e5]
  obtain ⟨a, A', c', l'⟩ := x
  obtain ⟨h1, h2⟩ := Tr.in_iff.1 hix
  obtain ⟨g1, ⟨g2, g3, g4⟩, _⟩ := h1
  simp only [Tr.kmk, Tr.a, Tr.A, Tr.c, Tr.l, D.k, D.n, D.t, D.A, D.c, D.l, markI_length, D.markL_length, Tr.kmkL_length] at c0 c1 c2 c3 c4 c5 c6 c7 g1 g2 g3 g4 h2 ⊢
  exact ⟨b, o, e, hblk, c0, c1, c2, c3, c4, c5, c6, c7, g1, ⟨⟨by first | exact g2.1 | (simp only [D.markL_length]; exact g2.1) | (show (D.markL _ _).length ≤ _; rw [D.markL_length]; exact g2.1), g2.2.1, Nat.zero_le _⟩, g3, g4⟩, h2⟩
def KoHeldOk (m : Nat) : Prop := ∀ (A : Option Addr) (c : Nat) (l : List (Tr Ko)) (B : Nat) (w : World) (q : Int), Tr.sizeL l ≤ m → Tr.bulkL Ko.bulk l ≤ 1500000 → 0 ≤ q → q + Tr.kwtL l ≤ 100000000 → Ko.E.LIn w B A c (Tr.kmkL l q) → B ≤ w.heap.size →
    Calls Tryz.prog 63 #[.slice A l.length c, .int .i64 q] w fun e w' => e = .returned (.int .i64 (q + Tr.kwtL l)) ∧ Below w.heap.size w w'
set_option maxRecDepth 100000 in
set_option maxHeartbeats 4000000 in
theorem Ko_held_step (m : Nat) (ih : ∀ m', m' < m → KoHeldOk m') : KoHeldOk m := by
  intro A c l B w q hm hbk hq0 hq hin hB
  have hcap := hin.cap
  rw [Tr.kmkL_length] at hcap
  go_enter Tryz.func63, Tryz.ntmps63
  go_wp2_with fail
  go_loopw [1, 5] (fun v i wr => ∃ (j : Nat) (Q : Int), j ≤ l.length ∧ i = .int .i64 j ∧ v = .int .i64 Q ∧ Q = q + (Tr.kwtL (l.take j) : Int) ∧ Below w.heap.size w wr) (fun _ i _ => l.length - (intOf i).toNat)
  case atStart => exact ⟨0, q, Nat.zero_le _, rfl, rfl, by simp [Tr.kwtL], Below.refl _ _⟩
  case round =>
    obtain ⟨j, Q, hj, rfl, rfl, hQe, hb⟩ := hrel
    have hs2 := hb.size
    by_cases hlt : j < l.length
    · obtain ⟨b, o, hA, hblk, c0, c1, c2, c3, c4, c5, c6, c7, i1, i2, i3⟩ := Ko.cells_kmk (hin.below (hb.mono hB)) hlt hQe
      subst hA
      have hsz := Tr.sizeL_mem (l := l) (List.getElem_mem hlt)
      have hbk1 := Tr.bulkL_mem (f := Ko.bulk) (l := l) (List.getElem_mem hlt)
      have hsq := Tr.size_eq l[j]
      have hbq := Tr.bulk_eq Ko.bulk l[j]
      have hbd := D.bulk_size l[j].a.d
      have hds := D.size_eq l[j].a.d
      have hkb : Ko.bulk l[j].a = l[j].a.s.length + l[j].a.d.bulk := rfl
      have hw1 := Tr.kwtL_take_succ l j hlt
      have hw2 := Tr.kwtL_take_le l (j + 1)
      have hw3 := Tr.kwt_eq l[j]
      have q1 : b < wr.heap.size := by omega
      have g1 : (0 : Int) ≤ (j : Int) := by omega
      have g2 : (j : Int) < (l.length : Int) := by omega
      have Q0 : 0 ≤ Q := by omega
      have Q1 : Q + 5 + l[j].kwt ≤ 100000000 := by omega
      have HQ := Lib.hid hQe
      have I2 := Lib.hid i2
      have I3 := Lib.hid i3
      clear hQe i2 i3
      go_wp2_with fail
      refine (heldI_any l[j].a.sA l[j].a.sC l[j].a.s B _ _ (by omega) (by omega) (by omega) i1).mono ?_
      rintro e w2 ⟨rfl, hw⟩
      obtain rfl := hw.symm
      have hpos1 : ¬ (Q + 1 + 1 + (l[j].a.s.length : Int) < 0) := by omega
      go_wp2_with fail
      go_region_held3 (fun w' => w'.cell? ⟨b, o + j * 8 + 5, none⟩ = some (.string (markB (Q + 1 + 1 + l[j].a.s.length + 1 + 1)))) (go_keep)
        ((go_at_call 89; refine (markText_any _ _ ?_).mono ?_; omega; rintro e w1 ⟨rfl, hb1⟩; have a5 := (hb1.cell (p := ⟨b, o + j * 8 + 5, none⟩) q1).trans c5))
      have hb1' : Below wr.heap.size wr w1 := below_undrew hb1
      have hb2 : Below w.heap.size w w1 := hb.trans (hb1'.mono (show w.heap.size ≤ wr.heap.size by omega))
      have hz : wr.heap.size ≤ w1.heap.size := hb1.size
      have a6 := (hb1'.cell (p := ⟨b, o + j * 8 + 6, none⟩) q1).trans c6
      have a7 := (hb1'.cell (p := ⟨b, o + j * 8 + 7, none⟩) q1).trans c7
      have i2 := I2.out.below (w' := w1) (hb1'.mono (show B ≤ wr.heap.size by omega))
      have i3 := I3.out.below (w' := w1) (hb1'.mono (show B ≤ wr.heap.size by omega))
      have J3 := Lib.hid i3
      clear hb1 hb1' c0 c1 c2 c3 c4 c5 c6 c7 i1 i3
      go_wp2_with fail
      refine (held_any (D.sizeL l[j].a.d.l) l[j].a.d B _ _ (Nat.le_refl _) (by omega) (by omega) (by omega) i2 (by omega)).mono ?_
      rintro e w3 ⟨rfl, hb3⟩
      have hb4 := hb2.trans (hb3.mono (show w.heap.size ≤ w1.heap.size by omega))
      have z3 := hb3.size
      have b7 := (hb3.cell (p := ⟨b, o + j * 8 + 7, none⟩) (show b < _ by omega)).trans a7
      have i3 := J3.out.below (w' := w3) (hb3.mono (show B ≤ w1.heap.size by omega))
      have hpos2 : ¬ (Q + 1 + 1 + (l[j].a.s.length : Int) + 1 + 1 + 1 + 3 * (D.sizeL l[j].a.d.l : Int) < 0) := by omega
      clear hb3 a5 a6 a7 i2
      go_wp2_with fail
      refine (ih (Tr.sizeL l[j].l) (by omega) l[j].A l[j].c l[j].l B _ _ (Nat.le_refl _) (by omega) (by omega) (by omega) i3 (by omega)).mono ?_
      rintro e w4 ⟨rfl, hb5⟩
      have hpos3 : ¬ (Q + 1 + 1 + (l[j].a.s.length : Int) + 1 + 1 + 1 + 3 * (D.sizeL l[j].a.d.l : Int) + (Tr.kwtL l[j].l : Int) < 0) := by omega
      clear i3
      go_wp2_with fail
      refine ⟨⟨j + 1, _, by omega, by go_num, rfl, by rw [HQ.out, hw1, hw3]; omega, hb4.trans (hb5.mono (by omega))⟩, by simp [intOf]; omega⟩
    · have hj' : j = l.length := by omega
      subst hj'
      rw [List.take_length] at hQe
      go_wp2_with fail
      go_ret
      exact ⟨ret_int (by rw [hQe]), hb⟩
theorem Ko_heldL_any (m : Nat) : KoHeldOk m := by
  induction m using Nat.strongRecOn with
  | _ m ih => exact Ko_held_step m ih
set_option maxRecDepth 100000 in
set_option maxHeartbeats 4000000 in
theorem Ko_held_any (d : Tr Ko) (lo hi : Nat) (w : World) (q : Int) (hbk : d.bulk Ko.bulk ≤ 1500000) (hq0 : 0 ≤ q) (hq : q ≤ 1000000) (ho : Ko.E.Own lo hi w (d.kmkT q)) (hhi : hi ≤ w.heap.size) :
    Calls Tryz.prog 14 #[Ko.val d, .int .i64 q] w fun e w' => e = .returned (.int .i64 (q + d.kwt)) ∧ Below w.heap.size w w' := by
  have hin := ho.inn
  have hbq := Tr.bulk_eq Ko.bulk d
  have hkb : Ko.bulk d.a = d.a.s.length + d.a.d.bulk := rfl
  have hbd := D.bulk_size d.a.d
  have hds := D.size_eq d.a.d
  have hw3 := Tr.kwt_eq d
  have hwl := Tr.kwt_le d
  unfold Ko.val
  obtain ⟨W, hW⟩ : ∃ W, W = w.alloc (.cells #[.int .i64 d.a.k, .int .i64 d.a.n, .slice d.a.sA d.a.s.length d.a.sC, .int .i64 d.a.d.k, .int .i64 d.a.d.n, .string d.a.d.t, .slice d.a.d.A d.a.d.l.length d.a.d.c, .slice d.A d.l.length d.c] 35) := ⟨_, rfl⟩
  have b0 : Below w.heap.size w W := by rw [hW]; exact (Below.refl _ _).alloc (Nat.le_refl _) _
  have zW : W.heap.size = w.heap.size + 1 := by rw [hW]; simp
  have X0 : Ko.Box W w.heap.size d := by rw [hW]; exact Ko.Box.new _ _ _
  have hod : (D.mk d.a.d.k d.a.d.n d.a.d.t d.a.d.A d.a.d.c (D.markL d.a.d.l (q + d.a.s.length))).Own lo hi W := ((Ko.head_parts (Ko.own_parts ho).1).2.1).below (b0.mono hhi)
  have hin := Elem.In.below hin (b0.mono hhi)
  obtain ⟨⟨i1, i2, _⟩, i3⟩ := Tr.in_iff.1 hin
  have X0q := X0
  obtain ⟨a0, a1, a2, a3, a4, a5, a6, a7⟩ := X0q
  have I3 := Lib.hid i3
  clear i2 i3 hin ho
  go_enter Tryz.func14, Tryz.ntmps14
  go_wp2_with fail
  rw [← hW]
  clear hW
  refine (heldI_any d.a.sA d.a.sC d.a.s hi _ _ (by omega) (by omega) (by omega) i1).mono ?_
  rintro e w1 ⟨rfl, hw⟩
  obtain rfl := hw.symm
  have hpos1 : ¬ (q + (d.a.s.length : Int) < 0) := by omega
  go_wp2_with fail
  clear a0 a1 a2 a3 a4 a5 a6 a7
  refine (heldD_any d.a.d lo hi _ _ (by omega) (by omega) (by omega) hod (by omega)).mono ?_
  rintro e w3 ⟨rfl, hb3⟩
  have z3 := hb3.size
  have X3 := X0.below hb3 (by omega)
  have i3 := I3.out.below (w' := w3) (hb3.mono (by omega))
  obtain ⟨a0, a1, a2, a3, a4, a5, a6, a7⟩ := X3
  have hpos2 : ¬ (q + (d.a.s.length : Int) + 3 * (D.sizeL d.a.d.l : Int) < 0) := by omega
  have b3 := b0.trans (hb3.mono (by omega))
  clear hb3
  go_wp2_with fail
  clear a0 a1 a2 a3 a4 a5 a6 a7
  refine (Ko_heldL_any _ d.A d.c d.l hi _ _ (Nat.le_refl _) (by omega) (by omega) (by omega) i3 (by omega)).mono ?_
  rintro e w4 ⟨rfl, hb4⟩
  have hpos3 : ¬ (q + (d.a.s.length : Int) + 3 * (D.sizeL d.a.d.l : Int) + (Tr.kwtL d.l : Int) < 0) := by omega
  have b4 := b3.trans (hb4.mono (show w.heap.size ≤ w3.heap.size by omega))
  clear hb4
  go_wp2_with fail
  go_ret
  exact ⟨ret_int (by omega), b4⟩
end Go.Proofs.YtpigpncbjckbcaaGreat
namespace Go.Proofs.YtpigpncbjckbcaaGreat
open Go.RowKit
def Ko.Meets (w0 : World) (Y : Tr Ko) (v : Value) (wx : World) : Prop :=
  ∃ (p : Nat) (x : Tr Ko), v = .pointer (some ⟨p, 0, none⟩) ∧ Ko.Box wx p x ∧ Hid (x.er Ko.er = Y) ∧ Ko.E.Own w0.heap.size wx.heap.size wx x ∧ w0.heap.size ≤ p ∧ p < wx.heap.size ∧ Below w0.heap.size w0 wx
theorem Ko.Meets.new {w0 w : World} {Y x : Tr Ko} {t : TypeId} {lo hi : Nat} (hb : Below w0.heap.size w0 w) (hQ : Hid (x.er Ko.er = Y)) (ho : Ko.E.Own lo hi w x) (hhi : hi ≤ w.heap.size) (h0 : w0.heap.size ≤ lo) :
    Ko.Meets w0 Y (.pointer (some ⟨w.heap.size, 0, none⟩)) (w.alloc (.cells #[.int .i64 x.a.k, .int .i64 x.a.n, .slice x.a.sA x.a.s.length x.a.sC, .int .i64 x.a.d.k, .int .i64 x.a.d.n, .string x.a.d.t, .slice x.a.d.A x.a.d.l.length x.a.d.c, .slice x.A x.l.length x.c] t)) := by
  have hz := hb.size
  exact ⟨_, x, rfl, Ko.Box.new _ _ _, hQ, (ho.below ((Below.refl _ _).alloc hhi _)).wide h0 (by simp; omega), hz, by simp, hb.alloc hz _⟩
set_option maxHeartbeats 2000000 in
theorem Ko.Meets.put {w0 w : World} {Y x : Tr Ko} {t : TypeId} {g lo hi : Nat} {cs : Array Value} (hb : Below w0.heap.size w0 w) (hQ : Hid (x.er Ko.er = Y)) (ho : Ko.E.Own lo hi w x) (hhi : hi ≤ w.heap.size) (hlo : g < lo) (h0 : w0.heap.size ≤ g) (h : D.Blk w g t cs) (hs : cs.size = 8) :
    Ko.Meets w0 Y (.pointer (some ⟨g, 0, none⟩)) ((((((((w.setCell ⟨g, 0, none⟩ (.int .i64 x.a.k)).setCell ⟨g, 1, none⟩ (.int .i64 x.a.n)).setCell ⟨g, 2, none⟩ (.slice x.a.sA x.a.s.length x.a.sC)).setCell ⟨g, 3, none⟩ (.int .i64 x.a.d.k)).setCell ⟨g, 4, none⟩ (.int .i64 x.a.d.n)).setCell ⟨g, 5, none⟩ (.string x.a.d.t)).setCell ⟨g, 6, none⟩ (.slice x.a.d.A x.a.d.l.length x.a.d.c)).setCell ⟨g, 7, none⟩ (.slice x.A x.l.length x.c)) := by
  have hz := hb.size
  have hg := h.lt
  have o4 := ((((((((ho.far (p := ⟨g, 0, none⟩) hlo (.int .i64 x.a.k)).far (p := ⟨g, 1, none⟩) hlo (.int .i64 x.a.n)).far (p := ⟨g, 2, none⟩) hlo (.slice x.a.sA x.a.s.length x.a.sC)).far (p := ⟨g, 3, none⟩) hlo (.int .i64 x.a.d.k)).far (p := ⟨g, 4, none⟩) hlo (.int .i64 x.a.d.n)).far (p := ⟨g, 5, none⟩) hlo (.string x.a.d.t)).far (p := ⟨g, 6, none⟩) hlo (.slice x.a.d.A x.a.d.l.length x.a.d.c)).far (p := ⟨g, 7, none⟩) hlo (.slice x.A x.l.length x.c))
  obtain ⟨u0, u1, u2, u3, u4, u5, u6, u7, rfl⟩ : ∃ u0 u1 u2 u3 u4 u5 u6 u7, cs = #[u0, u1, u2, u3, u4, u5, u6, u7] := by
    obtain ⟨l⟩ := cs
    match l, hs with
    | [u0, u1, u2, u3, u4, u5, u6, u7], _ => exact ⟨u0, u1, u2, u3, u4, u5, u6, u7, rfl⟩
  have k : D.Blk ((((((((w.setCell ⟨g, 0, none⟩ (.int .i64 x.a.k)).setCell ⟨g, 1, none⟩ (.int .i64 x.a.n)).setCell ⟨g, 2, none⟩ (.slice x.a.sA x.a.s.length x.a.sC)).setCell ⟨g, 3, none⟩ (.int .i64 x.a.d.k)).setCell ⟨g, 4, none⟩ (.int .i64 x.a.d.n)).setCell ⟨g, 5, none⟩ (.string x.a.d.t)).setCell ⟨g, 6, none⟩ (.slice x.a.d.A x.a.d.l.length x.a.d.c)).setCell ⟨g, 7, none⟩ (.slice x.A x.l.length x.c)) g t #[.int .i64 x.a.k, .int .i64 x.a.n, .slice x.a.sA x.a.s.length x.a.sC, .int .i64 x.a.d.k, .int .i64 x.a.d.n, .string x.a.d.t, .slice x.a.d.A x.a.d.l.length x.a.d.c, .slice x.A x.l.length x.c] := by
    have := ((((((((h.set_ 0 (.int .i64 x.a.k)).set_ 1 (.int .i64 x.a.n)).set_ 2 (.slice x.a.sA x.a.s.length x.a.sC)).set_ 3 (.int .i64 x.a.d.k)).set_ 4 (.int .i64 x.a.d.n)).set_ 5 (.string x.a.d.t)).set_ 6 (.slice x.a.d.A x.a.d.l.length x.a.d.c)).set_ 7 (.slice x.A x.l.length x.c))
    simpa using this
  have k0 := k.cell 0
  have k1 := k.cell 1
  have k2 := k.cell 2
  have k3 := k.cell 3
  have k4 := k.cell 4
  have k5 := k.cell 5
  have k6 := k.cell 6
  have k7 := k.cell 7
  refine ⟨g, x, rfl, ⟨k0, k1, k2, k3, k4, k5, k6, k7⟩, hQ, o4.wide (by omega) (by simp only [World.size_setCell]; omega), h0, by simp only [World.size_setCell]; omega,
    ((((((((hb.setCell (by simpa using h0) _).setCell (by simpa using h0) _).setCell (by simpa using h0) _).setCell (by simpa using h0) _).setCell (by simpa using h0) _).setCell (by simpa using h0) _).setCell (by simpa using h0) _).setCell (by simpa using h0) _)⟩
end Go.Proofs.YtpigpncbjckbcaaGreat
