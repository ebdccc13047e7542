/-
  The laws' own functions on data: the marks' text.
-/
import Derived.Test.YtpigpncbjckbcaaBase
import Derived.Test.YtpigpncbjckbcaaProg
import Derived.Handy
import Derived.WalkSpells
import Derived.WalkLawsBesides
import Derived.Lib.ItoaNum
import Derived.Deep.RegionHeld3
namespace Go.Proofs.Ytpigpncbjckbcaa
open Go.RowKit

/-- The mark of a number. -/
def markB (k : Int) : ByteArray := if k ≤ 0 then ⟨#[109, 48]⟩ else ⟨(109 :: Lib.decDigits k.toNat).toArray⟩
/-- The digits still to come. -/
def digs (j : Nat) : List UInt8 := if j = 0 then [] else Lib.decDigits j
theorem nDigits_le : ∀ (k n : Nat), 1 ≤ k → n < 10 ^ k → Lib.nDigits n ≤ k
  | 0, n, h, _ => by omega
  | k + 1, n, _, h => by
    by_cases h10 : n < 10
    · rw [Lib.nDigits_small h10]; omega
    · rw [Lib.nDigits_big h10]
      rw [Nat.pow_succ] at h
      have hk : 1 ≤ k := by
        rcases Nat.eq_zero_or_pos k with rfl | hk
        · simp at h; omega
        · exact hk
      have := nDigits_le k (n / 10) hk (by omega)
      omega
theorem digs_step (j : Nat) (h : 0 < j) (out : List UInt8) : digs j ++ out = digs (j / 10) ++ (UInt8.ofNat (48 + j % 10) :: out) := by
  unfold digs
  rw [if_neg (by omega), Lib.decDigits]
  by_cases h10 : j < 10
  · rw [dif_pos h10, if_pos (by omega), Nat.mod_eq_of_lt h10]; rfl
  · rw [dif_neg h10, if_neg (by omega)]; simp
theorem markB_size (k : Int) (h : k ≤ 9223372036854775807) : (markB k).size ≤ 30 := by
  unfold markB
  split
  · decide
  · have := nDigits_le 19 k.toNat (by omega) (by omega)
    show (109 :: Lib.decDigits k.toNat).toArray.size ≤ 30
    simp [Lib.decDigits_length]
    omega

set_option maxRecDepth 100000 in
set_option maxHeartbeats 1000000 in
theorem markText_any (k : Int) (w : World) (h2 : k ≤ 9223372036854775807) :
    Calls Try.prog 72 #[.int .i64 k] w fun e w' => e = .returned (.string (markB k)) ∧ Below w.heap.size w w' := by
  by_cases h : k ≤ 0
  · go_enter Try.func72, Try.ntmps72
    go_wp2_with fail
    go_ret
    exact ⟨ret_str (by rw [markB, if_pos h]), Below.refl _ _⟩
  · obtain ⟨n, rfl⟩ := Int.eq_ofNat_of_zero_le (show 0 ≤ k by omega)
    have hdd := nDigits_le 19 n (by omega) (by omega)
    rw [← Lib.decDigits_length] at hdd
    go_enter Try.func72, Try.ntmps72
    go_wp2_with fail
    go_loopw [0, 3] (fun q o wr => ∃ (j : Nat) (out : List UInt8), q = .int .i64 j ∧ o = .string ⟨out.toArray⟩ ∧ j ≤ n ∧ Hid (Lib.decDigits n = digs j ++ out) ∧ out.length ≤ 19 ∧ Below w.heap.size w wr) (fun q _ _ => (intOf q).toNat)
    case atStart => exact ⟨n, [], rfl, rfl, Nat.le_refl _, by rw [Hid, digs, if_neg (by omega)]; simp, by simp, Below.refl _ _⟩
    case round =>
      obtain ⟨j, out, rfl, rfl, hj, HE, hol, hb⟩ := hrel
      have hs2 := hb.size
      by_cases hlt : 0 < j
      · have hcv := run_convert_bytes_arg (P := Try.prog) (wr.alloc (.cells #[.int .u8 (48 + (j : Int) % 10)] 5)) 112 5 Try.underlying112 Try.underlying5 wr.heap.size 0 1 1 [48 + (j : Int) % 10] rfl
          (fun i hi => by obtain rfl : i = 0 := by omega
                          rw [cell_of_row _ _ _ _ _ _ (heap_alloc_new wr _)]; rfl) 9 Try.underlying9
        have hne : (UInt8.ofNat (48 + (j : Int) % 10).toNat :: out).length ≤ 19 := by
          have h1 := HE.out
          rw [digs_step j hlt] at h1
          rw [h1] at hdd
          simp at hdd ⊢
          omega
        have HN := Lib.hid hne
        clear hne
        have hst : (strOfNums [48 + (j : Int) % 10]) = ⟨[UInt8.ofNat (48 + (j : Int) % 10).toNat].toArray⟩ := rfl
        rw [hst] at hcv
        clear hst
        go_wp2_with fail
        have e1 : (48 + UInt8.ofNat (j % 10)) = UInt8.ofNat (48 + (j : Int) % 10).toNat := by
          rw [show (48 + (j : Int) % 10).toNat = 48 + j % 10 by omega, UInt8.ofNat_add]; rfl
        refine ⟨⟨j / 10, UInt8.ofNat (48 + (j : Int) % 10).toNat :: out, by go_num, ?_, by omega, ?_, HN.out, hb.alloc hs2 _⟩, by simp [intOf]; omega⟩
        · rw [e1]; exact congrArg Value.string (ByteArray.mk_append_mk [_] out)
        · rw [Hid, HE.out, digs_step j hlt, show (48 + (j : Int) % 10).toNat = 48 + j % 10 by omega]
      · go_wp2_with fail
        obtain rfl : j = 0 := by omega
        go_ret
        refine ⟨ret_str ?_, hb⟩
        have := HE.out
        simp only [digs, if_true, List.nil_append] at this
        rw [markB, if_neg (by omega), Int.toNat_natCast, this]
        exact ByteArray.mk_append_mk [109] out
end Go.Proofs.Ytpigpncbjckbcaa

namespace Go.Proofs.Ytpigpncbjckbcaa
open Go.RowKit
namespace D
mutual
/-- The marked datum. -/
def markD : D → Int → D | .mk _ _ _ A c l, q => .mk q (q + 1) (markB (q + 2)) A c (markL l (q + 3))
def markL : List D → Int → List D | [], _ => [] | d :: r, q => markD d q :: markL r (q + 3 * d.size)
end
theorem markL_length (l : List D) : ∀ q, (markL l q).length = l.length := by
  induction l with
  | nil => intro q; rfl
  | cons d r ih => intro q; simp [markL, ih]
theorem markL_append (a b : List D) : ∀ q, markL (a ++ b) q = markL a q ++ markL b (q + 3 * sizeL a) := by
  induction a with
  | nil => intro q; simp [markL, sizeL]
  | cons d r ih => intro q; simp [markL, sizeL, ih]; congr 1; omega
theorem blks_mark (d : D) : ∀ q, blks (markD d q) = blks d := by
  induction d using ind with
  | h d ih =>
    cases d with
    | mk k n t A c l =>
      intro q
      have key : ∀ l' : List D, (∀ x ∈ l', x ∈ l) → ∀ q, blksL (markL l' q) = blksL l' := by
        intro l'
        induction l' with
        | nil => intro _ q; rfl
        | cons x r ih2 =>
          intro hs q
          simp only [markL, blksL]
          rw [ih x (hs x (by simp)), ih2 fun y hy => hs y (by simp [hy])]
      simp only [markD, blks, key l (fun _ h => h)]
      congr 2
      cases l <;> rfl
theorem blksL_mark (l : List D) : ∀ q, blksL (markL l q) = blksL l := by
  induction l with
  | nil => intro q; rfl
  | cons x r ih => intro q; simp only [markL, blksL, blks_mark, ih]
theorem cell_set_ne (w : World) (b q r : Nat) (u : Value) (h : q ≠ r) : (w.setCell ⟨b, r, none⟩ u).cell? ⟨b, q, none⟩ = w.cell? ⟨b, q, none⟩ := World.cell?_setCell_other w ⟨b, r, none⟩ ⟨b, q, none⟩ u (fun e => h (Addr.mk.inj e).2.1.symm)
theorem cell_set_eq {w : World} {b q : Nat} {u v : Value} (h : w.cell? ⟨b, q, none⟩ = some v) : (w.setCell ⟨b, q, none⟩ u).cell? ⟨b, q, none⟩ = some u := by
  simp [go_sem, h]
section
variable {wr w1 w2 : World} {b o j lo hi : Nat} {pre suf : List D} {x : D} {Q : Int}
theorem mark_heap (hb1 : Below wr.heap.size ((wr.setCell ⟨b, o + j * 4, none⟩ (.int .i64 Q)).setCell ⟨b, o + j * 4 + 1, none⟩ (.int .i64 (Q + 1))) w1) (u : Value) (k : Nat) (hk : k < wr.heap.size) (hne : k ≠ b) :
    (w1.setCell ⟨b, o + j * 4 + 2, none⟩ u).heap[k]? = wr.heap[k]? := by
  rw [Below.heap_setCell _ _ _ _ hne, hb1.block k hk, Below.heap_setCell _ _ _ _ hne, Below.heap_setCell _ _ _ _ hne]
theorem mark_pre (hhi : hi ≤ wr.heap.size) (ho : OwnL lo hi wr (pre ++ x :: suf)) (hbn : b ∉ blksL (pre ++ x :: suf))
    (hb1 : Below wr.heap.size ((wr.setCell ⟨b, o + j * 4, none⟩ (.int .i64 Q)).setCell ⟨b, o + j * 4 + 1, none⟩ (.int .i64 (Q + 1))) w1) (u : Value) : Own lo hi (w1.setCell ⟨b, o + j * 4 + 2, none⟩ u) x :=
  ho.mid.keepB fun k hk => mark_heap hb1 u k (by have := ho.mid.inn.blk_lt k hk; omega) (fun e => hbn (by subst e; simp [blksL_append, blksL, hk]))
theorem mark_round (hbw : b < wr.heap.size) (hhi : hi ≤ wr.heap.size) (hr : RowIs wr b o (pre ++ x :: suf)) (ho : OwnL lo hi wr (pre ++ x :: suf)) (hbn : b ∉ blksL (pre ++ x :: suf)) (hpre : pre.length = j)
    (hfr : ∀ q, wr.frozen? ⟨b, q, none⟩ = false) (hQ : Q + 2 ≤ 9223372036854775807)
    (hb1 : Below wr.heap.size ((wr.setCell ⟨b, o + j * 4, none⟩ (.int .i64 Q)).setCell ⟨b, o + j * 4 + 1, none⟩ (.int .i64 (Q + 1))) w1)
    (hown2 : (D.mk x.k x.n x.t x.A x.c (markL x.l (Q + 3))).Own lo hi w2) (hch2 : Chg x.blks (w1.setCell ⟨b, o + j * 4 + 2, none⟩ (.string (markB (Q + 2)))) w2) :
    RowIs w2 b o (pre ++ markD x Q :: suf) ∧ OwnL lo hi w2 (pre ++ markD x Q :: suf) ∧ (∀ q, w2.frozen? ⟨b, q, none⟩ = false) ∧ Chg (b :: blksL (pre ++ x :: suf)) wr w2 := by
  have hx : (pre ++ x :: suf)[j]? = some x := by rw [List.getElem?_append_right (by omega), hpre]; simp
  obtain ⟨c0, c1, c2, c3⟩ := hr j _ hx
  have hmx : ∀ k, k ∈ blks x → k ∈ blksL (pre ++ x :: suf) := fun k hk => by simp [blksL_append, blksL, hk]
  have hbx : b ∉ blks x := fun h => hbn (hmx b h)
  have hz := hb1.size
  simp only [World.size_setCell] at hz
  have hcb : ∀ q, w2.cell? ⟨b, q, none⟩ = (w1.setCell ⟨b, o + j * 4 + 2, none⟩ (.string (markB (Q + 2)))).cell? ⟨b, q, none⟩ := fun q => World.cell?_of_block (hch2.block b (by simp; omega) hbx)
  have hc1 : ∀ q, w1.cell? ⟨b, q, none⟩ = ((wr.setCell ⟨b, o + j * 4, none⟩ (.int .i64 Q)).setCell ⟨b, o + j * 4 + 1, none⟩ (.int .i64 (Q + 1))).cell? ⟨b, q, none⟩ := fun q => hb1.cell (p := ⟨b, q, none⟩) hbw
  have d2 : w1.cell? ⟨b, o + j * 4 + 2, none⟩ = some (.string x.t) := by rw [hc1, cell_set_ne _ _ _ _ _ (by omega), cell_set_ne _ _ _ _ _ (by omega)]; exact c2
  refine ⟨hr.upd hpre (fun q h0 h1 h2 => ?_) ?_ ?_ ?_ ?_ ?_ ?_, ho.put (fun k hk => ?_) ?_ (blks_mark x Q), fun q => ?_, ?_⟩
  · rw [hcb, cell_set_ne _ _ _ _ _ h2, hc1, cell_set_ne _ _ _ _ _ h1, cell_set_ne _ _ _ _ _ h0]
  · rw [hcb, cell_set_ne _ _ _ _ _ (by omega), hc1, cell_set_ne _ _ _ _ _ (by omega), cell_set_eq c0]
    cases x; rfl
  · rw [hcb, cell_set_ne _ _ _ _ _ (by omega), hc1, cell_set_eq (v := .int .i64 x.n) (by rw [cell_set_ne _ _ _ _ _ (by omega)]; exact c1)]
    cases x; rfl
  · rw [hcb, cell_set_eq d2]
    cases x; rfl
  · cases x; rfl
  · cases x; simp only [markD, D.l, markL_length]
  · cases x; rfl
  · have h1 : k < wr.heap.size := by
      have : k ∈ blksL (pre ++ x :: suf) := by simp only [blksL_append, blksL, List.mem_append]; rcases hk with h | h <;> simp [h]
      have := ho.inn.blk_lt k this
      omega
    have h2 : k ≠ b := fun e => hbn (by subst e; simp only [blksL_append, blksL, List.mem_append]; rcases hk with h | h <;> simp [h])
    rw [hch2.block k (by simp; omega) (ho.mid_far k hk)]
    exact mark_heap hb1 _ k h1 h2
  · have := hown2.head (k' := Q) (n' := Q + 1) (t' := markB (Q + 2)) (by have := markB_size (Q + 2) hQ; omega)
    cases x
    exact this
  · rw [World.frozen?_of_block (hch2.block b (by simp; omega) hbx), World.frozen?_setCell, hb1.frozen (p := ⟨b, q, none⟩) hbw, World.frozen?_setCell, World.frozen?_setCell]
    exact hfr q
  · refine ⟨?_, ?_, ?_, ?_, fun k hk hn => ?_⟩
    · exact hch2.os.trans hb1.os
    · exact hch2.tape.trans hb1.tape
    · exact hch2.output.trans hb1.output
    · have := hch2.size; simp at this; omega
    · rw [List.mem_cons, not_or] at hn
      rw [hch2.block k (by simp; omega) (fun h => hn.2 (hmx k h))]
      exact mark_heap hb1 _ k hk hn.1
end
end D

def MarkOk (m : Nat) : Prop := ∀ (d : D) (lo hi : Nat) (w : World) (q : Int), D.sizeL d.l ≤ m → m ≤ 2000000 → 0 ≤ q → q + 3 * D.sizeL d.l ≤ 1000000000 → d.Own lo hi w → hi ≤ w.heap.size →
    Calls Try.prog 73 #[.slice d.A d.l.length d.c, .int .i64 q] w fun e w' => e = .returned (.int .i64 (q + 3 * D.sizeL d.l)) ∧ (D.mk d.k d.n d.t d.A d.c (D.markL d.l q)).Own lo hi w' ∧ Chg d.blks w w'

set_option maxRecDepth 100000 in
set_option maxHeartbeats 1000000 in
theorem mark_step (m : Nat) (ih : ∀ m', m' < m → MarkOk m') : MarkOk m := by
  intro d lo hi w q hm hm2 hq0 hq hown hhi
  obtain ⟨k, n, t, A, c, l⟩ := d
  have hcap := hown.inn.cap
  simp only [D.l, D.c, D.t, D.A, D.k, D.n] at *
  by_cases hl : l = []
  · subst hl
    go_enter Try.func73, Try.ntmps73
    go_wp2_with fail
    go_loopw [1, 5] (fun v i wr => v = .int .i64 q ∧ i = .int .i64 0 ∧ wr = w) (fun _ _ _ => 0)
    case atStart => exact ⟨rfl, rfl, rfl⟩
    case round =>
      obtain ⟨rfl, rfl, rfl⟩ := hrel
      go_wp2_with fail
      go_ret
      exact ⟨ret_int (by simp [D.sizeL]), hown, Chg.refl _ _⟩
  · obtain ⟨b, o, rfl, hblo, hbhi, hbn, hfz, hrow, hol⟩ := hown.parts hl
    have hbl : (D.mk k n t (some ⟨b, o, none⟩) c l).blks = b :: D.blksL l := by
      cases l with
      | nil => exact absurd rfl hl
      | cons _ _ => simp [D.blks]
    have Hbl := Lib.hid hbl
    clear hbl
    go_enter Try.func73, Try.ntmps73
    go_wp2_with fail
    go_loopw [1, 5] (fun v i wr => ∃ j : Nat, j ≤ l.length ∧ i = .int .i64 j ∧ v = .int .i64 (q + 3 * (D.sizeL (l.take j) : Int)) ∧ D.RowIs wr b o (D.markL (l.take j) q ++ l.drop j) ∧ D.OwnL lo hi wr (D.markL (l.take j) q ++ l.drop j) ∧ Hid (∀ q, wr.frozen? ⟨b, q, none⟩ = false) ∧ Chg (b :: D.blksL l) w wr) (fun _ i _ => l.length - (intOf i).toNat)
    case atStart => exact ⟨0, Nat.zero_le _, rfl, by simp [D.sizeL], by simpa [D.markL] using hrow, by simpa [D.markL] using hol, hfz, Chg.refl _ _⟩
    case round =>
      obtain ⟨j, hj, rfl, rfl, hr, ho, Hfr, hch⟩ := hrel
      have hs2 := hch.size
      by_cases hlt : j < l.length
      · rw [List.drop_eq_getElem_cons hlt] at hr ho
        have hpre : (D.markL (l.take j) q).length = j := by rw [D.markL_length, List.length_take]; omega
        have hx : (D.markL (l.take j) q ++ l[j] :: l.drop (j + 1))[j]? = some l[j] := by rw [List.getElem?_append_right (by omega), hpre]; simp
        obtain ⟨c0, c1, c2, c3⟩ := hr j _ hx
        have hoj := ho.mid
        have f0 := Hfr.out (o + j * 4)
        have f1 := Hfr.out (o + j * 4 + 1)
        have f2 := Hfr.out (o + j * 4 + 2)
        have hsz := D.sizeL_append (l.take j) (l.drop j)
        rw [List.take_append_drop, List.drop_eq_getElem_cons hlt] at hsz
        simp only [D.sizeL] at hsz
        have hsz1 : D.sizeL (l.take j) + (l[j].size + D.sizeL (l.drop (j + 1))) ≤ D.sizeL l := by omega
        have hsx : 1 + D.sizeL l[j].l ≤ l[j].size := Nat.le_of_eq (D.size_eq _).symm
        have hsx' : l[j].size ≤ 1 + D.sizeL l[j].l := Nat.le_of_eq (D.size_eq _)
        have HT : Hid (D.sizeL (l.take (j + 1)) = D.sizeL (l.take j) + l[j].size) := by
          show _ = _
          rw [List.take_succ_eq_append_getElem hlt, D.sizeL_append]; simp [D.sizeL]
        have HM : Hid (D.markL (l.take (j + 1)) q = D.markL (l.take j) q ++ [D.markD l[j] (q + 3 * D.sizeL (l.take j))]) := by
          show _ = _
          rw [List.take_succ_eq_append_getElem hlt, D.markL_append]; simp [D.markL]
        have Hx := Lib.hid hx
        have Hp := Lib.hid hpre
        have Hfz := Lib.hid hfz
        clear hx hpre hsz hfz
        go_wp2_with fail
        refine (markText_any _ _ (by omega)).mono ?_
        rintro e w1 ⟨rfl, hb1⟩
        obtain ⟨hc, hf⟩ := bcell hb1
        have hz := hb1.size
        simp only [World.size_setCell] at hc hf hz hb1
        have hbw : b < wr.heap.size := by omega
        have c2' : w1.cell? ⟨b, o + j * 4 + 2, none⟩ = some (.string l[j].t) := by rw [hc _ _ hbw, D.cell_set_ne _ _ _ _ _ (by omega), D.cell_set_ne _ _ _ _ _ (by omega)]; exact c2
        have c3' : w1.cell? ⟨b, o + j * 4 + 3, none⟩ = some (.slice l[j].A l[j].l.length l[j].c) := by rw [hc _ _ hbw, D.cell_set_ne _ _ _ _ _ (by omega), D.cell_set_ne _ _ _ _ _ (by omega)]; exact c3
        have f2' : w1.frozen? ⟨b, o + j * 4 + 2, none⟩ = false := by rw [hf _ _ hbw, World.frozen?_setCell, World.frozen?_setCell]; exact f2
        have Hc := Lib.hid hc
        have Hf := Lib.hid hf
        clear hc hf
        have hbn' : b ∉ D.blksL (D.markL (l.take j) q ++ l[j] :: l.drop (j + 1)) := by
          rw [← List.drop_eq_getElem_cons hlt, D.blksL_append, D.blksL_mark, ← D.blksL_append, List.take_append_drop]; exact hbn
        have hpq : D.Own lo hi (w1.setCell ⟨b, o + j * 4 + 2, none⟩ (.string (markB (q + 3 * (D.sizeL (l.take j) : Int) + 1 + 1)))) l[j] := D.mark_pre (by omega) ho hbn' hb1 _
        go_wp2_with fail
        refine (ih (D.sizeL l[j].l) (by omega) l[j] lo hi _ _ (Nat.le_refl _) (by omega) (by omega) (by omega) hpq (by simp; omega)).mono ?_
        rintro e w2 ⟨rfl, hown2, hch2⟩
        have e2 : q + 3 * (D.sizeL (l.take j) : Int) + 1 + 1 = q + 3 * (D.sizeL (l.take j) : Int) + 2 := by omega
        have e3 : q + 3 * (D.sizeL (l.take j) : Int) + 1 + 1 + 1 = q + 3 * (D.sizeL (l.take j) : Int) + 3 := by omega
        rw [e2] at hch2
        rw [e3] at hown2
        have hmr := D.mark_round hbw (by omega) hr ho hbn' Hp.out Hfr.out (by omega) hb1 hown2 hch2
        have Hmr := Lib.hid hmr
        clear hmr e2 e3 hch2 hown2 hpq hbn'
        go_wp2_with fail
        obtain ⟨m1, m2, m3, m4⟩ := Hmr.out
        have eM : D.markL (l.take (j + 1)) q ++ l.drop (j + 1) = D.markL (l.take j) q ++ D.markD l[j] (q + 3 * (D.sizeL (l.take j) : Int)) :: l.drop (j + 1) := by rw [HM.out]; simp
        refine ⟨⟨j + 1, by omega, by go_num, by rw [HT.out]; congr 1; omega, by rw [eM]; exact m1, by rw [eM]; exact m2, m3, hch.trans (m4.mono ?_)⟩, by simp [intOf]; omega⟩
        intro y hy
        rwa [← List.drop_eq_getElem_cons hlt, D.blksL_append, D.blksL_mark, ← D.blksL_append, List.take_append_drop] at hy
      · have hj' : j = l.length := by omega
        subst hj'
        have Hch := Lib.hid hch
        go_wp2_with fail
        go_ret
        rw [List.take_length] at hr ho
        simp only [List.drop_length, List.append_nil] at hr ho
        refine ⟨ret_int (by rw [List.take_length]), D.Own.join ho (by rw [D.markL_length]; exact hcap) hblo hbhi (by rw [D.blksL_mark]; exact hbn) Hfr.out hr, by rw [Hbl.out]; exact Hch.out⟩
theorem mark_any (m : Nat) : MarkOk m := by
  induction m using Nat.strongRecOn with
  | _ m ih => exact mark_step m ih
end Go.Proofs.Ytpigpncbjckbcaa

namespace Go.Proofs.Ytpigpncbjckbcaa
open Go.RowKit

theorem markL_get (l : List D) (j : Nat) (h : j < l.length) : ∀ q, (D.markL l q)[j]? = some (D.markD l[j] (q + 3 * D.sizeL (l.take j))) := by
  induction l generalizing j with
  | nil => simp at h
  | cons d r ih =>
    intro q
    cases j with
    | zero => simp [D.markL, D.sizeL]
    | succ j =>
      simp at h
      simp only [D.markL, List.getElem?_cons_succ, List.getElem_cons_succ, List.take_succ_cons, D.sizeL]
      rw [ih j h]
      congr 2
      omega

end Go.Proofs.Ytpigpncbjckbcaa
