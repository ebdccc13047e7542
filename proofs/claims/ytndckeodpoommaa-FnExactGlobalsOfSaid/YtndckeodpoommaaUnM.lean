/-
  Marking a row of units: the answer, and that nothing but the row's own memory is written (written by gen/recm.py).
-/
import Derived.Test.YtndckeodpoommaaRUn
import Derived.Test.YtndckeodpoommaaMkg
import Derived.Test.YtndckeodpoommaaKoM
namespace Go.Proofs.Ytndckeodpoommaa
open Go.RowKit

namespace Un
/-- How many marks a unit takes. -/
def uw (x : Un) : Nat := 6 + x.g.length + x.b.kwt
def uwL (l : List Un) : Nat := Row.bulk (fun x => 5 + x.g.length + x.b.kwt) l
theorem uwL_take_succ (l : List Un) (j : Nat) (h : j < l.length) : uwL (l.take (j + 1)) = uwL (l.take j) + 6 + l[j].g.length + l[j].b.kwt := by
  unfold uwL
  rw [Row.bulk_take_succ _ l j h]; omega
theorem uwL_take_le (l : List Un) (j : Nat) : uwL (l.take j) ≤ uwL l := by
  have := Row.bulk_take_le (fun x : Un => 5 + x.g.length + x.b.kwt) l j
  unfold uwL; omega
theorem uwL_le (l : List Un) : uwL l ≤ 12 * Row.bulk Un.bulk l := by
  induction l with
  | nil => simp [uwL, Row.bulk]
  | cons x r ih =>
    have h1 := Tr.kwt_le x.b
    have h2 : x.bulk = x.nm.size + x.g.length + x.b.bulk Ko.bulk := rfl
    unfold uwL at ih ⊢
    simp only [Row.bulk]
    omega
theorem own_parts {lo hi : Nat} {w : World} {x : Un} (h : Un.E.Own lo hi w x) : IOwn lo hi w x.gA x.gC x.g ∧ Ko.E.Own lo hi w x.b ∧ ∀ k ∈ iblk x.gA x.g, k ∉ Ko.E.blks x.b := by
  obtain ⟨hin, hlo, hnd, hfr⟩ := h
  have i1 := (Un.E_in hin).g
  have i2 := (Un.E_in hin).b
  obtain ⟨_, n2, n3⟩ := List.nodup_append.1 (show (iblk x.gA x.g ++ Ko.E.blks x.b).Nodup from hnd)
  refine ⟨⟨i1, fun hl b o e => ?_⟩, ⟨i2, fun b hb => hlo b (List.mem_append.2 (.inr hb)), n2, fun b hb => hfr b (List.mem_append.2 (.inr hb))⟩, fun b hb hm => n3 b hb b hm rfl⟩
  have hm : b ∈ iblk x.gA x.g := by rw [e, iblk_some hl]; simp
  exact ⟨hlo b (List.mem_append.2 (.inl hm)), hfr b (List.mem_append.2 (.inl hm))⟩
end Un
/-- j elements of the row at ⟨b, o⟩ have been marked. -/
structure UnRun (w : World) (b o : Nat) (l : List Un) (j : Nat) (wr : World) : Prop where
  chg : Chg (b :: Un.E.blksL (l.take j)) w wr
  row : ∀ p, o + j * 10 ≤ p → wr.cell? ⟨b, p, none⟩ = w.cell? ⟨b, p, none⟩
  fr : ∀ p, wr.frozen? ⟨b, p, none⟩ = false
theorem UnRun.step {w wr ww : World} {b o j : Nat} {l : List Un} (h : UnRun w b o l j wr) (hj : j < l.length) (hm : Mkg b (o + j * 10) 10 (Un.E.blks l[j]) wr ww) : UnRun w b o l (j + 1) ww := by
  have eb : Un.E.blksL (l.take (j + 1)) = Un.E.blksL (l.take j) ++ Un.E.blks l[j] := by
    rw [List.take_succ_eq_append_getElem hj]; unfold Elem.blksL; rw [List.flatMap_append, List.flatMap_singleton]
  refine ⟨(h.chg.mono fun k hk => ?_).trans (hm.chg.mono fun k hk => ?_), fun p hp => (hm.row p (by omega)).trans (h.row p (by omega)), hm.fr⟩
  · rw [eb]; simp only [List.mem_cons, List.mem_append] at hk ⊢; rcases hk with hk | hk <;> simp [hk]
  · rw [eb]; simp only [List.mem_cons, List.mem_append] at hk ⊢; rcases hk with hk | hk <;> simp [hk]

set_option maxRecDepth 100000 in
set_option maxHeartbeats 16000000 in
theorem Un_markL_any (A : Option Addr) (c : Nat) (l : List Un) (lo hi : Nat) (w : World) (q : Int) (hbk : Row.bulk Un.bulk l ≤ 1500000) (hq0 : 0 ≤ q) (hq : q ≤ 1000000) (hown : Un.E.LOwn lo hi w A c l) (hhi : hi ≤ w.heap.size) :
    Calls Try.prog 19 #[.slice A l.length c, .int .i64 q] w fun e w' => e = .returned (.int .i64 (q + Un.uwL l)) ∧ True ∧ Chg (Un.E.lblks A l) w w' := by
  have hcap := hown.inn.cap
  have huw := Un.uwL_le l
  by_cases hl : l = []
  · subst hl
    go_enter Try.func19, Try.ntmps19
    go_wp2_with fail
    go_loopw [1, 5] (fun v i wr => v = .int .i64 q ∧ i = .int .i64 0 ∧ wr = w) (fun _ _ _ => 0)
    case atStart => exact ⟨rfl, rfl, rfl⟩
    case round =>
      obtain ⟨rfl, rfl, rfl⟩ := hrel
      go_wp2_with fail
      go_ret
      exact ⟨ret_int (by simp [Un.uwL, Row.bulk]), trivial, Chg.refl _ _⟩
  · obtain ⟨b, o, rfl, hbhi, hcells⟩ := hown.inn.mem hl
    have hlb : Un.E.lblks (some ⟨b, o, none⟩) l = b :: Un.E.blksL l := by unfold Elem.lblks; rw [Elem.lblk_some hl]; rfl
    have hfz : ∀ p, w.frozen? ⟨b, p, none⟩ = false := hown.fr b (by rw [hlb]; simp)
    have Hlb := Lib.hid hlb
    clear hlb
    go_enter Try.func19, Try.ntmps19
    go_wp2_with fail
    go_loopw [1, 5] (fun v i wr => ∃ j : Nat, j ≤ l.length ∧ i = .int .i64 j ∧ v = .int .i64 (q + (Un.uwL (l.take j) : Int)) ∧ UnRun w b o l j wr) (fun _ i _ => l.length - (intOf i).toNat)
    case atStart => exact ⟨0, Nat.zero_le _, rfl, by simp [Un.uwL, Row.bulk], Chg.refl _ _, fun _ _ => rfl, hfz⟩
    case round =>
      obtain ⟨j, hj, rfl, rfl, hr⟩ := hrel
      have hs2 := hr.chg.size
      by_cases hlt : j < l.length
      · obtain ⟨b', o', e, hblk, c0, c1, c2, c3, c4, c5, c6, c7, c8, c9, hix⟩ := Un.at_ hown.inn (i := j) (x := l[j]) (List.getElem?_eq_getElem hlt)
        obtain ⟨rfl, rfl, _⟩ := Addr.mk.inj (Option.some.inj e)
        clear e hix
        have hbk1 := Row.bulk_mem (f := Un.bulk) (l := l) (List.getElem_mem hlt)
        have hub : (l[j]).bulk = l[j].nm.size + l[j].g.length + l[j].b.bulk Ko.bulk := rfl
        have hbq := Tr.bulk_eq Ko.bulk l[j].b
        have hkb : Ko.bulk l[j].b.a = l[j].b.a.s.length + l[j].b.a.d.bulk := rfl
        have hsl := Tr.sizeL_le_bulkL Ko.bulk l[j].b.l
        have hbd := D.bulk_size l[j].b.a.d
        have hds := D.size_eq l[j].b.a.d
        have hw1 := Un.uwL_take_succ l j hlt
        have hw2 := Un.uwL_take_le l (j + 1)
        have hw3 := Tr.kwt_eq l[j].b
        have hsplit : l = l.take j ++ l[j] :: l.drop (j + 1) := by rw [← List.drop_eq_getElem_cons hlt, List.take_append_drop]
        have hmid := hown
        rw [hsplit] at hmid
        obtain ⟨hox, hbx⟩ := hmid.mid
        have hbx := hbx b o rfl
        have hdis : ∀ k ∈ Un.E.blks l[j], k ∉ b :: Un.E.blksL (l.take j) := by
          intro k hk hm
          rcases List.mem_cons.1 hm with rfl | hm
          · exact hbx hk
          · have hnd := hmid.nd
            have hnd2 := (List.nodup_append.1 hnd).2.1
            simp only [Elem.blksL, List.flatMap_append, List.flatMap_cons] at hnd2 hm
            exact (List.nodup_append.1 hnd2).2.2 k hm k (by simp [hk]) rfl
        clear hmid hsplit
        have hor : Un.E.Own lo hi wr l[j] := hox.keepB fun k hk => hr.chg.block k (by have := hox.inn.blk_lt k hk; omega) (hdis k hk)
        obtain ⟨ho0, hob, hd0⟩ := Un.own_parts hor
        obtain ⟨hoh, ho3, hd3⟩ := Ko.own_parts hob
        obtain ⟨ho1, ho2, hd12⟩ := Ko.head_parts hoh
        have ebk : ∀ k, k ∈ iblk l[j].gA l[j].g ∨ k ∈ iblk l[j].b.a.sA l[j].b.a.s ∨ k ∈ D.blks l[j].b.a.d ∨ k ∈ Ko.E.lblks l[j].b.A l[j].b.l → k ∈ Un.E.blks l[j] := by
          intro k hk
          show k ∈ iblk l[j].gA l[j].g ++ Ko.E.blks l[j].b
          rw [Ko.blks_all]
          simp only [List.mem_append]
          rcases hk with hk | hk | hk | hk <;> simp [hk]
        have ekb : ∀ k, k ∈ iblk l[j].b.a.sA l[j].b.a.s ∨ k ∈ D.blks l[j].b.a.d ∨ k ∈ Ko.E.lblks l[j].b.A l[j].b.l → k ∈ Ko.E.blks l[j].b := by
          intro k hk
          rw [Ko.blks_all]
          simp only [List.mem_append]
          rcases hk with hk | hk | hk <;> simp [hk]
        have SUB0 : Hid (∀ k ∈ iblk l[j].gA l[j].g, k ∈ Un.E.blks l[j]) := fun k hk => ebk k (.inl hk)
        have SUB1 : Hid (∀ k ∈ iblk l[j].b.a.sA l[j].b.a.s, k ∈ Un.E.blks l[j]) := fun k hk => ebk k (.inr (.inl hk))
        have SUB2 : Hid (∀ k ∈ D.blks l[j].b.a.d, k ∈ Un.E.blks l[j]) := fun k hk => ebk k (.inr (.inr (.inl hk)))
        have SUB3 : Hid (∀ k ∈ Ko.E.lblks l[j].b.A l[j].b.l, k ∈ Un.E.blks l[j]) := fun k hk => ebk k (.inr (.inr (.inr hk)))
        have NB0 : Hid (b ∉ iblk l[j].gA l[j].g) := fun h => hbx (SUB0.out _ h)
        have NB1 : Hid (b ∉ iblk l[j].b.a.sA l[j].b.a.s) := fun h => hbx (SUB1.out _ h)
        have NB2 : Hid (b ∉ D.blks l[j].b.a.d) := fun h => hbx (SUB2.out _ h)
        have NB3 : Hid (b ∉ Ko.E.lblks l[j].b.A l[j].b.l) := fun h => hbx (SUB3.out _ h)
        have DJ01 : Hid (∀ k ∈ iblk l[j].gA l[j].g, k ∉ iblk l[j].b.a.sA l[j].b.a.s) := fun k h0 h1 => hd0 k h0 (ekb k (.inl h1))
        have DJ02 : Hid (∀ k ∈ iblk l[j].gA l[j].g, k ∉ D.blks l[j].b.a.d) := fun k h0 h1 => hd0 k h0 (ekb k (.inr (.inl h1)))
        have DJ03 : Hid (∀ k ∈ iblk l[j].gA l[j].g, k ∉ Ko.E.lblks l[j].b.A l[j].b.l) := fun k h0 h1 => hd0 k h0 (ekb k (.inr (.inr h1)))
        have DJ12 : Hid (∀ k ∈ iblk l[j].b.a.sA l[j].b.a.s, k ∉ D.blks l[j].b.a.d) := hd12
        have DJ13 : Hid (∀ k ∈ iblk l[j].b.a.sA l[j].b.a.s, k ∉ Ko.E.lblks l[j].b.A l[j].b.l) := fun k h0 => hd3 k (List.mem_append.2 (.inl h0))
        have DJ23 : Hid (∀ k ∈ D.blks l[j].b.a.d, k ∉ Ko.E.lblks l[j].b.A l[j].b.l) := fun k h0 => hd3 k (List.mem_append.2 (.inr h0))
        have O0 := Lib.hid ho0
        have O1 := Lib.hid ho1
        have O2 := Lib.hid ho2
        have O3 := Lib.hid ho3
        have lb : b < wr.heap.size := by omega
        have M0 : Hid (Mkg b (o + j * 10) 10 (Un.E.blks l[j]) wr wr) := Mkg.new lb hr.fr
        have rc := hr.row
        have r0 := (rc (o + j * 10) (by omega)).trans c0
        have f0 := hr.fr (o + j * 10)
        have r1 := (rc (o + j * 10 + 1) (by omega)).trans c1
        have f1 := hr.fr (o + j * 10 + 1)
        have r2 := (rc (o + j * 10 + 2) (by omega)).trans c2
        have f2 := hr.fr (o + j * 10 + 2)
        have r3 := (rc (o + j * 10 + 3) (by omega)).trans c3
        have f3 := hr.fr (o + j * 10 + 3)
        have r4 := (rc (o + j * 10 + 4) (by omega)).trans c4
        have f4 := hr.fr (o + j * 10 + 4)
        have r5 := (rc (o + j * 10 + 5) (by omega)).trans c5
        have f5 := hr.fr (o + j * 10 + 5)
        have r6 := (rc (o + j * 10 + 6) (by omega)).trans c6
        have f6 := hr.fr (o + j * 10 + 6)
        have r7 := (rc (o + j * 10 + 7) (by omega)).trans c7
        have f7 := hr.fr (o + j * 10 + 7)
        have r8 := (rc (o + j * 10 + 8) (by omega)).trans c8
        have f8 := hr.fr (o + j * 10 + 8)
        have r9 := (rc (o + j * 10 + 9) (by omega)).trans c9
        have f9 := hr.fr (o + j * 10 + 9)
        have HR := Lib.hid hr
        have HFZ := Lib.hid hfz
        clear hr hfz hbx hdis rc c0 c1 c2 c3 c4 c5 c6 c7 c8 c9 ho0 ho1 ho2 ho3 hob hoh hd0 hd3 hd12 ebk ekb hox hor
        go_wp2_with fail
        refine (markText_any _ _ (by omega)).mono ?_
        rintro e z1 ⟨rfl, hh⟩
        have hc1 : Chg ([] : List Nat) wr z1 := Chg.of_below hh
        clear hh
        have s1 := hc1.size
        have M1 : Hid (Mkg b (o + j * 10) 10 (Un.E.blks l[j]) wr z1) := M0.out.call hc1 (by simp) (by simp)
        have r0 : z1.cell? ⟨b, o + j * 10, none⟩ = some (.string l[j].nm) := (M0.out.cell hc1 (by simp)).trans r0
        have r1 : z1.cell? ⟨b, o + j * 10 + 1, none⟩ = some (.slice l[j].gA l[j].g.length l[j].gC) := (M0.out.cell hc1 (by simp)).trans r1
        have r2 : z1.cell? ⟨b, o + j * 10 + 2, none⟩ = some (.int .i64 l[j].b.a.k) := (M0.out.cell hc1 (by simp)).trans r2
        have r3 : z1.cell? ⟨b, o + j * 10 + 3, none⟩ = some (.int .i64 l[j].b.a.n) := (M0.out.cell hc1 (by simp)).trans r3
        have r4 : z1.cell? ⟨b, o + j * 10 + 4, none⟩ = some (.slice l[j].b.a.sA l[j].b.a.s.length l[j].b.a.sC) := (M0.out.cell hc1 (by simp)).trans r4
        have r5 : z1.cell? ⟨b, o + j * 10 + 5, none⟩ = some (.int .i64 l[j].b.a.d.k) := (M0.out.cell hc1 (by simp)).trans r5
        have r6 : z1.cell? ⟨b, o + j * 10 + 6, none⟩ = some (.int .i64 l[j].b.a.d.n) := (M0.out.cell hc1 (by simp)).trans r6
        have r7 : z1.cell? ⟨b, o + j * 10 + 7, none⟩ = some (.string l[j].b.a.d.t) := (M0.out.cell hc1 (by simp)).trans r7
        have r8 : z1.cell? ⟨b, o + j * 10 + 8, none⟩ = some (.slice l[j].b.a.d.A l[j].b.a.d.l.length l[j].b.a.d.c) := (M0.out.cell hc1 (by simp)).trans r8
        have r9 : z1.cell? ⟨b, o + j * 10 + 9, none⟩ = some (.slice l[j].b.A l[j].b.l.length l[j].b.c) := (M0.out.cell hc1 (by simp)).trans r9
        have O0 : Hid (IOwn lo hi z1 l[j].gA l[j].gC l[j].g) := by
          show IOwn lo hi z1 l[j].gA l[j].gC l[j].g
          refine O0.out.keep fun k hk => hc1.block k (by have := O0.out.inn.blk_lt k hk; omega) (by simp)
        have O1 : Hid (IOwn lo hi z1 l[j].b.a.sA l[j].b.a.sC l[j].b.a.s) := by
          show IOwn lo hi z1 l[j].b.a.sA l[j].b.a.sC l[j].b.a.s
          refine O1.out.keep fun k hk => hc1.block k (by have := O1.out.inn.blk_lt k hk; omega) (by simp)
        have O2 : Hid (l[j].b.a.d.Own lo hi z1) := by
          show l[j].b.a.d.Own lo hi z1
          refine O2.out.keepB fun k hk => hc1.block k (by have := O2.out.inn.blk_lt k hk; omega) (by simp)
        have O3 : Hid (Ko.E.LOwn lo hi z1 l[j].b.A l[j].b.c l[j].b.l) := by
          show Ko.E.LOwn lo hi z1 l[j].b.A l[j].b.c l[j].b.l
          refine O3.out.keepB fun k hk => hc1.block k (by have := O3.out.inn.blk_lt k hk; omega) (by simp)
        have f0 := M1.out.fr (o + j * 10)
        have f1 := M1.out.fr (o + j * 10 + 1)
        have f2 := M1.out.fr (o + j * 10 + 2)
        have f3 := M1.out.fr (o + j * 10 + 3)
        have f4 := M1.out.fr (o + j * 10 + 4)
        have f5 := M1.out.fr (o + j * 10 + 5)
        have f6 := M1.out.fr (o + j * 10 + 6)
        have f7 := M1.out.fr (o + j * 10 + 7)
        have f8 := M1.out.fr (o + j * 10 + 8)
        have f9 := M1.out.fr (o + j * 10 + 9)
        clear hc1 M0
        go_wp2_with fail
        obtain ⟨z2, hz2⟩ : ∃ W, W = (z1.setCell ⟨b, o + j * 10, none⟩ (.string (markB (q + (Un.uwL (l.take j) : Int))))) := ⟨_, rfl⟩
        first | rw [← hz2] | skip
        have M2 : Hid (Mkg b (o + j * 10) 10 (Un.E.blks l[j]) wr z2) := by show Mkg _ _ _ _ _ _; rw [hz2]; exact (Mkg.set M1.out (by omega) _)
        have s2 : z1.heap.size ≤ z2.heap.size := by rw [hz2]; simp
        have r1 : z2.cell? ⟨b, o + j * 10 + 1, none⟩ = some (.slice l[j].gA l[j].g.length l[j].gC) := by rw [hz2, icell_ne _ _ _ _ _ (by omega)]; exact r1
        have r2 : z2.cell? ⟨b, o + j * 10 + 2, none⟩ = some (.int .i64 l[j].b.a.k) := by rw [hz2, icell_ne _ _ _ _ _ (by omega)]; exact r2
        have r3 : z2.cell? ⟨b, o + j * 10 + 3, none⟩ = some (.int .i64 l[j].b.a.n) := by rw [hz2, icell_ne _ _ _ _ _ (by omega)]; exact r3
        have r4 : z2.cell? ⟨b, o + j * 10 + 4, none⟩ = some (.slice l[j].b.a.sA l[j].b.a.s.length l[j].b.a.sC) := by rw [hz2, icell_ne _ _ _ _ _ (by omega)]; exact r4
        have r5 : z2.cell? ⟨b, o + j * 10 + 5, none⟩ = some (.int .i64 l[j].b.a.d.k) := by rw [hz2, icell_ne _ _ _ _ _ (by omega)]; exact r5
        have r6 : z2.cell? ⟨b, o + j * 10 + 6, none⟩ = some (.int .i64 l[j].b.a.d.n) := by rw [hz2, icell_ne _ _ _ _ _ (by omega)]; exact r6
        have r7 : z2.cell? ⟨b, o + j * 10 + 7, none⟩ = some (.string l[j].b.a.d.t) := by rw [hz2, icell_ne _ _ _ _ _ (by omega)]; exact r7
        have r8 : z2.cell? ⟨b, o + j * 10 + 8, none⟩ = some (.slice l[j].b.a.d.A l[j].b.a.d.l.length l[j].b.a.d.c) := by rw [hz2, icell_ne _ _ _ _ _ (by omega)]; exact r8
        have r9 : z2.cell? ⟨b, o + j * 10 + 9, none⟩ = some (.slice l[j].b.A l[j].b.l.length l[j].b.c) := by rw [hz2, icell_ne _ _ _ _ _ (by omega)]; exact r9
        have O0 : Hid (IOwn lo hi z2 l[j].gA l[j].gC l[j].g) := by
          show IOwn lo hi z2 l[j].gA l[j].gC l[j].g
          refine O0.out.keep fun k hk => ?_
          have hne : k ≠ b := fun e => NB0.out (e ▸ hk)
          rw [hz2, Below.heap_setCell _ _ _ _ hne]
        have O1 : Hid (IOwn lo hi z2 l[j].b.a.sA l[j].b.a.sC l[j].b.a.s) := by
          show IOwn lo hi z2 l[j].b.a.sA l[j].b.a.sC l[j].b.a.s
          refine O1.out.keep fun k hk => ?_
          have hne : k ≠ b := fun e => NB1.out (e ▸ hk)
          rw [hz2, Below.heap_setCell _ _ _ _ hne]
        have O2 : Hid (l[j].b.a.d.Own lo hi z2) := by
          show l[j].b.a.d.Own lo hi z2
          refine O2.out.keepB fun k hk => ?_
          have hne : k ≠ b := fun e => NB2.out (e ▸ hk)
          rw [hz2, Below.heap_setCell _ _ _ _ hne]
        have O3 : Hid (Ko.E.LOwn lo hi z2 l[j].b.A l[j].b.c l[j].b.l) := by
          show Ko.E.LOwn lo hi z2 l[j].b.A l[j].b.c l[j].b.l
          refine O3.out.keepB fun k hk => ?_
          have hne : k ≠ b := fun e => NB3.out (e ▸ hk)
          rw [hz2, Below.heap_setCell _ _ _ _ hne]
        have f1 := M2.out.fr (o + j * 10 + 1)
        have f2 := M2.out.fr (o + j * 10 + 2)
        have f3 := M2.out.fr (o + j * 10 + 3)
        have f4 := M2.out.fr (o + j * 10 + 4)
        have f5 := M2.out.fr (o + j * 10 + 5)
        have f6 := M2.out.fr (o + j * 10 + 6)
        have f7 := M2.out.fr (o + j * 10 + 7)
        have f8 := M2.out.fr (o + j * 10 + 8)
        have f9 := M2.out.fr (o + j * 10 + 9)
        clear hz2 M1
        refine (markI_any l[j].gA l[j].gC l[j].g lo hi _ _ (by omega) (by omega) (by omega) O0.out).mono ?_
        rintro e z3 ⟨rfl, _, hc3⟩
        have s3 := hc3.size
        have M3 : Hid (Mkg b (o + j * 10) 10 (Un.E.blks l[j]) wr z3) := M2.out.call hc3 (SUB0.out) (NB0.out)
        have r2 : z3.cell? ⟨b, o + j * 10 + 2, none⟩ = some (.int .i64 l[j].b.a.k) := (M2.out.cell hc3 (NB0.out)).trans r2
        have r3 : z3.cell? ⟨b, o + j * 10 + 3, none⟩ = some (.int .i64 l[j].b.a.n) := (M2.out.cell hc3 (NB0.out)).trans r3
        have r4 : z3.cell? ⟨b, o + j * 10 + 4, none⟩ = some (.slice l[j].b.a.sA l[j].b.a.s.length l[j].b.a.sC) := (M2.out.cell hc3 (NB0.out)).trans r4
        have r5 : z3.cell? ⟨b, o + j * 10 + 5, none⟩ = some (.int .i64 l[j].b.a.d.k) := (M2.out.cell hc3 (NB0.out)).trans r5
        have r6 : z3.cell? ⟨b, o + j * 10 + 6, none⟩ = some (.int .i64 l[j].b.a.d.n) := (M2.out.cell hc3 (NB0.out)).trans r6
        have r7 : z3.cell? ⟨b, o + j * 10 + 7, none⟩ = some (.string l[j].b.a.d.t) := (M2.out.cell hc3 (NB0.out)).trans r7
        have r8 : z3.cell? ⟨b, o + j * 10 + 8, none⟩ = some (.slice l[j].b.a.d.A l[j].b.a.d.l.length l[j].b.a.d.c) := (M2.out.cell hc3 (NB0.out)).trans r8
        have r9 : z3.cell? ⟨b, o + j * 10 + 9, none⟩ = some (.slice l[j].b.A l[j].b.l.length l[j].b.c) := (M2.out.cell hc3 (NB0.out)).trans r9
        have O1 : Hid (IOwn lo hi z3 l[j].b.a.sA l[j].b.a.sC l[j].b.a.s) := by
          show IOwn lo hi z3 l[j].b.a.sA l[j].b.a.sC l[j].b.a.s
          refine O1.out.keep fun k hk => hc3.block k (by have := O1.out.inn.blk_lt k hk; omega) (fun h => DJ01.out k h hk)
        have O2 : Hid (l[j].b.a.d.Own lo hi z3) := by
          show l[j].b.a.d.Own lo hi z3
          refine O2.out.keepB fun k hk => hc3.block k (by have := O2.out.inn.blk_lt k hk; omega) (fun h => DJ02.out k h hk)
        have O3 : Hid (Ko.E.LOwn lo hi z3 l[j].b.A l[j].b.c l[j].b.l) := by
          show Ko.E.LOwn lo hi z3 l[j].b.A l[j].b.c l[j].b.l
          refine O3.out.keepB fun k hk => hc3.block k (by have := O3.out.inn.blk_lt k hk; omega) (fun h => DJ03.out k h hk)
        have f2 := M3.out.fr (o + j * 10 + 2)
        have f3 := M3.out.fr (o + j * 10 + 3)
        have f4 := M3.out.fr (o + j * 10 + 4)
        have f5 := M3.out.fr (o + j * 10 + 5)
        have f6 := M3.out.fr (o + j * 10 + 6)
        have f7 := M3.out.fr (o + j * 10 + 7)
        have f8 := M3.out.fr (o + j * 10 + 8)
        have f9 := M3.out.fr (o + j * 10 + 9)
        clear hc3 M2
        go_wp2_with fail
        obtain ⟨z4, hz4⟩ : ∃ W, W = ((z3.setCell ⟨b, o + j * 10 + 2, none⟩ (.int .i64 (((q + (Un.uwL (l.take j) : Int)) + 1) + (l[j].g.length : Int)))).setCell ⟨b, o + j * 10 + 3, none⟩ (.int .i64 ((((q + (Un.uwL (l.take j) : Int)) + 1) + (l[j].g.length : Int)) + 1))) := ⟨_, rfl⟩
        first | rw [← hz4] | skip
        have M4 : Hid (Mkg b (o + j * 10) 10 (Un.E.blks l[j]) wr z4) := by show Mkg _ _ _ _ _ _; rw [hz4]; exact (Mkg.set (Mkg.set M3.out (by omega) _) (by omega) _)
        have s4 : z3.heap.size ≤ z4.heap.size := by rw [hz4]; simp
        have r4 : z4.cell? ⟨b, o + j * 10 + 4, none⟩ = some (.slice l[j].b.a.sA l[j].b.a.s.length l[j].b.a.sC) := by rw [hz4, icell_ne _ _ _ _ _ (by omega), icell_ne _ _ _ _ _ (by omega)]; exact r4
        have r5 : z4.cell? ⟨b, o + j * 10 + 5, none⟩ = some (.int .i64 l[j].b.a.d.k) := by rw [hz4, icell_ne _ _ _ _ _ (by omega), icell_ne _ _ _ _ _ (by omega)]; exact r5
        have r6 : z4.cell? ⟨b, o + j * 10 + 6, none⟩ = some (.int .i64 l[j].b.a.d.n) := by rw [hz4, icell_ne _ _ _ _ _ (by omega), icell_ne _ _ _ _ _ (by omega)]; exact r6
        have r7 : z4.cell? ⟨b, o + j * 10 + 7, none⟩ = some (.string l[j].b.a.d.t) := by rw [hz4, icell_ne _ _ _ _ _ (by omega), icell_ne _ _ _ _ _ (by omega)]; exact r7
        have r8 : z4.cell? ⟨b, o + j * 10 + 8, none⟩ = some (.slice l[j].b.a.d.A l[j].b.a.d.l.length l[j].b.a.d.c) := by rw [hz4, icell_ne _ _ _ _ _ (by omega), icell_ne _ _ _ _ _ (by omega)]; exact r8
        have r9 : z4.cell? ⟨b, o + j * 10 + 9, none⟩ = some (.slice l[j].b.A l[j].b.l.length l[j].b.c) := by rw [hz4, icell_ne _ _ _ _ _ (by omega), icell_ne _ _ _ _ _ (by omega)]; exact r9
        have O1 : Hid (IOwn lo hi z4 l[j].b.a.sA l[j].b.a.sC l[j].b.a.s) := by
          show IOwn lo hi z4 l[j].b.a.sA l[j].b.a.sC l[j].b.a.s
          refine O1.out.keep fun k hk => ?_
          have hne : k ≠ b := fun e => NB1.out (e ▸ hk)
          rw [hz4, Below.heap_setCell _ _ _ _ hne, Below.heap_setCell _ _ _ _ hne]
        have O2 : Hid (l[j].b.a.d.Own lo hi z4) := by
          show l[j].b.a.d.Own lo hi z4
          refine O2.out.keepB fun k hk => ?_
          have hne : k ≠ b := fun e => NB2.out (e ▸ hk)
          rw [hz4, Below.heap_setCell _ _ _ _ hne, Below.heap_setCell _ _ _ _ hne]
        have O3 : Hid (Ko.E.LOwn lo hi z4 l[j].b.A l[j].b.c l[j].b.l) := by
          show Ko.E.LOwn lo hi z4 l[j].b.A l[j].b.c l[j].b.l
          refine O3.out.keepB fun k hk => ?_
          have hne : k ≠ b := fun e => NB3.out (e ▸ hk)
          rw [hz4, Below.heap_setCell _ _ _ _ hne, Below.heap_setCell _ _ _ _ hne]
        have f4 := M4.out.fr (o + j * 10 + 4)
        have f5 := M4.out.fr (o + j * 10 + 5)
        have f6 := M4.out.fr (o + j * 10 + 6)
        have f7 := M4.out.fr (o + j * 10 + 7)
        have f8 := M4.out.fr (o + j * 10 + 8)
        have f9 := M4.out.fr (o + j * 10 + 9)
        clear hz4 M3
        refine (markI_any l[j].b.a.sA l[j].b.a.sC l[j].b.a.s lo hi _ _ (by omega) (by omega) (by omega) O1.out).mono ?_
        rintro e z5 ⟨rfl, _, hc5⟩
        have s5 := hc5.size
        have M5 : Hid (Mkg b (o + j * 10) 10 (Un.E.blks l[j]) wr z5) := M4.out.call hc5 (SUB1.out) (NB1.out)
        have r5 : z5.cell? ⟨b, o + j * 10 + 5, none⟩ = some (.int .i64 l[j].b.a.d.k) := (M4.out.cell hc5 (NB1.out)).trans r5
        have r6 : z5.cell? ⟨b, o + j * 10 + 6, none⟩ = some (.int .i64 l[j].b.a.d.n) := (M4.out.cell hc5 (NB1.out)).trans r6
        have r7 : z5.cell? ⟨b, o + j * 10 + 7, none⟩ = some (.string l[j].b.a.d.t) := (M4.out.cell hc5 (NB1.out)).trans r7
        have r8 : z5.cell? ⟨b, o + j * 10 + 8, none⟩ = some (.slice l[j].b.a.d.A l[j].b.a.d.l.length l[j].b.a.d.c) := (M4.out.cell hc5 (NB1.out)).trans r8
        have r9 : z5.cell? ⟨b, o + j * 10 + 9, none⟩ = some (.slice l[j].b.A l[j].b.l.length l[j].b.c) := (M4.out.cell hc5 (NB1.out)).trans r9
        have O2 : Hid (l[j].b.a.d.Own lo hi z5) := by
          show l[j].b.a.d.Own lo hi z5
          refine O2.out.keepB fun k hk => hc5.block k (by have := O2.out.inn.blk_lt k hk; omega) (fun h => DJ12.out k h hk)
        have O3 : Hid (Ko.E.LOwn lo hi z5 l[j].b.A l[j].b.c l[j].b.l) := by
          show Ko.E.LOwn lo hi z5 l[j].b.A l[j].b.c l[j].b.l
          refine O3.out.keepB fun k hk => hc5.block k (by have := O3.out.inn.blk_lt k hk; omega) (fun h => DJ13.out k h hk)
        have f5 := M5.out.fr (o + j * 10 + 5)
        have f6 := M5.out.fr (o + j * 10 + 6)
        have f7 := M5.out.fr (o + j * 10 + 7)
        have f8 := M5.out.fr (o + j * 10 + 8)
        have f9 := M5.out.fr (o + j * 10 + 9)
        clear hc5 M4
        go_wp2_with fail
        obtain ⟨z6, hz6⟩ : ∃ W, W = ((z5.setCell ⟨b, o + j * 10 + 5, none⟩ (.int .i64 ((((((q + (Un.uwL (l.take j) : Int)) + 1) + (l[j].g.length : Int)) + 1) + 1) + (l[j].b.a.s.length : Int)))).setCell ⟨b, o + j * 10 + 6, none⟩ (.int .i64 (((((((q + (Un.uwL (l.take j) : Int)) + 1) + (l[j].g.length : Int)) + 1) + 1) + (l[j].b.a.s.length : Int)) + 1))) := ⟨_, rfl⟩
        first | rw [← hz6] | skip
        have M6 : Hid (Mkg b (o + j * 10) 10 (Un.E.blks l[j]) wr z6) := by show Mkg _ _ _ _ _ _; rw [hz6]; exact (Mkg.set (Mkg.set M5.out (by omega) _) (by omega) _)
        have s6 : z5.heap.size ≤ z6.heap.size := by rw [hz6]; simp
        have r7 : z6.cell? ⟨b, o + j * 10 + 7, none⟩ = some (.string l[j].b.a.d.t) := by rw [hz6, icell_ne _ _ _ _ _ (by omega), icell_ne _ _ _ _ _ (by omega)]; exact r7
        have r8 : z6.cell? ⟨b, o + j * 10 + 8, none⟩ = some (.slice l[j].b.a.d.A l[j].b.a.d.l.length l[j].b.a.d.c) := by rw [hz6, icell_ne _ _ _ _ _ (by omega), icell_ne _ _ _ _ _ (by omega)]; exact r8
        have r9 : z6.cell? ⟨b, o + j * 10 + 9, none⟩ = some (.slice l[j].b.A l[j].b.l.length l[j].b.c) := by rw [hz6, icell_ne _ _ _ _ _ (by omega), icell_ne _ _ _ _ _ (by omega)]; exact r9
        have O2 : Hid (l[j].b.a.d.Own lo hi z6) := by
          show l[j].b.a.d.Own lo hi z6
          refine O2.out.keepB fun k hk => ?_
          have hne : k ≠ b := fun e => NB2.out (e ▸ hk)
          rw [hz6, Below.heap_setCell _ _ _ _ hne, Below.heap_setCell _ _ _ _ hne]
        have O3 : Hid (Ko.E.LOwn lo hi z6 l[j].b.A l[j].b.c l[j].b.l) := by
          show Ko.E.LOwn lo hi z6 l[j].b.A l[j].b.c l[j].b.l
          refine O3.out.keepB fun k hk => ?_
          have hne : k ≠ b := fun e => NB3.out (e ▸ hk)
          rw [hz6, Below.heap_setCell _ _ _ _ hne, Below.heap_setCell _ _ _ _ hne]
        have f7 := M6.out.fr (o + j * 10 + 7)
        have f8 := M6.out.fr (o + j * 10 + 8)
        have f9 := M6.out.fr (o + j * 10 + 9)
        clear hz6 M5
        refine (markText_any _ _ (by omega)).mono ?_
        rintro e z7 ⟨rfl, hh⟩
        have hc7 : Chg ([] : List Nat) z6 z7 := Chg.of_below hh
        clear hh
        have s7 := hc7.size
        have M7 : Hid (Mkg b (o + j * 10) 10 (Un.E.blks l[j]) wr z7) := M6.out.call hc7 (by simp) (by simp)
        have r7 : z7.cell? ⟨b, o + j * 10 + 7, none⟩ = some (.string l[j].b.a.d.t) := (M6.out.cell hc7 (by simp)).trans r7
        have r8 : z7.cell? ⟨b, o + j * 10 + 8, none⟩ = some (.slice l[j].b.a.d.A l[j].b.a.d.l.length l[j].b.a.d.c) := (M6.out.cell hc7 (by simp)).trans r8
        have r9 : z7.cell? ⟨b, o + j * 10 + 9, none⟩ = some (.slice l[j].b.A l[j].b.l.length l[j].b.c) := (M6.out.cell hc7 (by simp)).trans r9
        have O2 : Hid (l[j].b.a.d.Own lo hi z7) := by
          show l[j].b.a.d.Own lo hi z7
          refine O2.out.keepB fun k hk => hc7.block k (by have := O2.out.inn.blk_lt k hk; omega) (by simp)
        have O3 : Hid (Ko.E.LOwn lo hi z7 l[j].b.A l[j].b.c l[j].b.l) := by
          show Ko.E.LOwn lo hi z7 l[j].b.A l[j].b.c l[j].b.l
          refine O3.out.keepB fun k hk => hc7.block k (by have := O3.out.inn.blk_lt k hk; omega) (by simp)
        have f7 := M7.out.fr (o + j * 10 + 7)
        have f8 := M7.out.fr (o + j * 10 + 8)
        have f9 := M7.out.fr (o + j * 10 + 9)
        clear hc7 M6
        go_wp2_with fail
        obtain ⟨z8, hz8⟩ : ∃ W, W = (z7.setCell ⟨b, o + j * 10 + 7, none⟩ (.string (markB ((((((((q + (Un.uwL (l.take j) : Int)) + 1) + (l[j].g.length : Int)) + 1) + 1) + (l[j].b.a.s.length : Int)) + 1) + 1)))) := ⟨_, rfl⟩
        first | rw [← hz8] | skip
        have M8 : Hid (Mkg b (o + j * 10) 10 (Un.E.blks l[j]) wr z8) := by show Mkg _ _ _ _ _ _; rw [hz8]; exact (Mkg.set M7.out (by omega) _)
        have s8 : z7.heap.size ≤ z8.heap.size := by rw [hz8]; simp
        have r8 : z8.cell? ⟨b, o + j * 10 + 8, none⟩ = some (.slice l[j].b.a.d.A l[j].b.a.d.l.length l[j].b.a.d.c) := by rw [hz8, icell_ne _ _ _ _ _ (by omega)]; exact r8
        have r9 : z8.cell? ⟨b, o + j * 10 + 9, none⟩ = some (.slice l[j].b.A l[j].b.l.length l[j].b.c) := by rw [hz8, icell_ne _ _ _ _ _ (by omega)]; exact r9
        have O2 : Hid (l[j].b.a.d.Own lo hi z8) := by
          show l[j].b.a.d.Own lo hi z8
          refine O2.out.keepB fun k hk => ?_
          have hne : k ≠ b := fun e => NB2.out (e ▸ hk)
          rw [hz8, Below.heap_setCell _ _ _ _ hne]
        have O3 : Hid (Ko.E.LOwn lo hi z8 l[j].b.A l[j].b.c l[j].b.l) := by
          show Ko.E.LOwn lo hi z8 l[j].b.A l[j].b.c l[j].b.l
          refine O3.out.keepB fun k hk => ?_
          have hne : k ≠ b := fun e => NB3.out (e ▸ hk)
          rw [hz8, Below.heap_setCell _ _ _ _ hne]
        have f8 := M8.out.fr (o + j * 10 + 8)
        have f9 := M8.out.fr (o + j * 10 + 9)
        clear hz8 M7
        refine (mark_any (D.sizeL l[j].b.a.d.l) l[j].b.a.d lo hi _ _ (Nat.le_refl _) (by omega) (by omega) (by omega) O2.out (by omega)).mono ?_
        rintro e z9 ⟨rfl, _, hc9⟩
        have s9 := hc9.size
        have M9 : Hid (Mkg b (o + j * 10) 10 (Un.E.blks l[j]) wr z9) := M8.out.call hc9 (SUB2.out) (NB2.out)
        have r9 : z9.cell? ⟨b, o + j * 10 + 9, none⟩ = some (.slice l[j].b.A l[j].b.l.length l[j].b.c) := (M8.out.cell hc9 (NB2.out)).trans r9
        have O3 : Hid (Ko.E.LOwn lo hi z9 l[j].b.A l[j].b.c l[j].b.l) := by
          show Ko.E.LOwn lo hi z9 l[j].b.A l[j].b.c l[j].b.l
          refine O3.out.keepB fun k hk => hc9.block k (by have := O3.out.inn.blk_lt k hk; omega) (fun h => DJ23.out k h hk)
        have f9 := M9.out.fr (o + j * 10 + 9)
        clear hc9 M8
        go_wp2_with fail
        refine (Ko_markL_any _ l[j].b.A l[j].b.c l[j].b.l lo hi _ _ (Nat.le_refl _) (by omega) (by omega) (by omega) O3.out (by omega)).mono ?_
        rintro e z10 ⟨rfl, hc10⟩
        have s10 := hc10.size
        have M10 : Hid (Mkg b (o + j * 10) 10 (Un.E.blks l[j]) wr z10) := M9.out.call hc10 (SUB3.out) (NB3.out)
        clear hc10 M9
        have HS := Lib.hid (UnRun.step HR.out hlt M10.out)
        go_wp2_with fail
        refine ⟨⟨j + 1, by omega, by go_num, by rw [hw1, hw3]; congr 1; omega, HS.out⟩, by simp [intOf]; omega⟩
      · have hj' : j = l.length := by omega
        subst hj'
        have HR := Lib.hid hr
        clear hr
        go_wp2_with fail
        go_ret
        have hc := HR.out.chg
        rw [List.take_length] at hc
        exact ⟨ret_int (by rw [List.take_length]), trivial, by rw [Hlb.out]; exact hc⟩
end Go.Proofs.Ytndckeodpoommaa
