/-
  The laws' own functions on data: the marks' text.
-/
import Derived.Test.YtpigpncbjckbcaaDoorBase
import Derived.Test.YtpigpncbjckbcaaDoorProg
import Derived.Handy
import Derived.WalkSpells
import Derived.WalkLawsBesides
import Derived.Lib.ItoaNum
import Derived.Deep.RegionHeld3
namespace Go.Proofs.YtpigpncbjckbcaaDoor
open Go.RowKit

/-- The mark of a number. -/
def markB (k : Int) : ByteArray := if k ≤ 0 then ⟨#[109, 48]⟩ else ⟨(109 :: Lib.decDigits k.toNat).toArray⟩
/-- The digits still to come. -/
def digs (j : Nat) : List UInt8 := if j = 0 then [] else Lib.decDigits j
theorem nDigits_le : ∀ (k n : Nat), 1 ≤ k → n < 10 ^ k → Lib.nDigits n ≤ k
  | 0, n, h, _ => by omega
  | k + 1, n, _, h => by
    by_cases h10 : n < 10
    · rw [Lib.nDigits_small h10]; omega
    · rw [Lib.nDigits_big h10]
      rw [Nat.pow_succ] at h
      have hk : 1 ≤ k := by
        rcases Nat.eq_zero_or_pos k with rfl | hk
        · simp at h; omega
        · exact hk
      have := nDigits_le k (n / 10) hk (by omega)
      omega
theorem digs_step (j : Nat) (h : 0 < j) (out : List UInt8) : digs j ++ out = digs (j / 10) ++ (UInt8.ofNat (48 + j % 10) :: out) := by
  unfold digs
  rw [if_neg (by omega), Lib.decDigits]
  by_cases h10 : j < 10
  · rw [dif_pos h10, if_pos (by omega), Nat.mod_eq_of_lt h10]; rfl
  · rw [dif_neg h10, if_neg (by omega)]; simp
theorem markB_size (k : Int) (h : k ≤ 9223372036854775807) : (markB k).size ≤ 30 := by
  unfold markB
  split
  · decide
  · have := nDigits_le 19 k.toNat (by omega) (by omega)
    show (109 :: Lib.decDigits k.toNat).toArray.size ≤ 30
    simp [Lib.decDigits_length]
    omega

end Go.Proofs.YtpigpncbjckbcaaDoor

namespace Go.Proofs.YtpigpncbjckbcaaDoor
open Go.RowKit
namespace D
mutual
/-- The marked datum. -/
def markD : D → Int → D | .mk _ _ _ A c l, q => .mk q (q + 1) (markB (q + 2)) A c (markL l (q + 3))
def markL : List D → Int → List D | [], _ => [] | d :: r, q => markD d q :: markL r (q + 3 * d.size)
end
theorem markL_length (l : List D) : ∀ q, (markL l q).length = l.length := by
  induction l with
  | nil => intro q; rfl
  | cons d r ih => intro q; simp [markL, ih]
theorem markL_append (a b : List D) : ∀ q, markL (a ++ b) q = markL a q ++ markL b (q + 3 * sizeL a) := by
  induction a with
  | nil => intro q; simp [markL, sizeL]
  | cons d r ih => intro q; simp [markL, sizeL, ih]; congr 1; omega
theorem blks_mark (d : D) : ∀ q, blks (markD d q) = blks d := by
  induction d using ind with
  | h d ih =>
    cases d with
    | mk k n t A c l =>
      intro q
      have key : ∀ l' : List D, (∀ x ∈ l', x ∈ l) → ∀ q, blksL (markL l' q) = blksL l' := by
        intro l'
        induction l' with
        | nil => intro _ q; rfl
        | cons x r ih2 =>
          intro hs q
          simp only [markL, blksL]
          rw [ih x (hs x (by simp)), ih2 fun y hy => hs y (by simp [hy])]
      simp only [markD, blks, key l (fun _ h => h)]
      congr 2
      cases l <;> rfl
theorem blksL_mark (l : List D) : ∀ q, blksL (markL l q) = blksL l := by
  induction l with
  | nil => intro q; rfl
  | cons x r ih => intro q; simp only [markL, blksL, blks_mark, ih]
theorem cell_set_ne (w : World) (b q r : Nat) (u : Value) (h : q ≠ r) : (w.setCell ⟨b, r, none⟩ u).cell? ⟨b, q, none⟩ = w.cell? ⟨b, q, none⟩ := World.cell?_setCell_other w ⟨b, r, none⟩ ⟨b, q, none⟩ u (fun e => h (Addr.mk.inj e).2.1.symm)
theorem cell_set_eq {w : World} {b q : Nat} {u v : Value} (h : w.cell? ⟨b, q, none⟩ = some v) : (w.setCell ⟨b, q, none⟩ u).cell? ⟨b, q, none⟩ = some u := by
  simp [go_sem, h]
section
variable {wr w1 w2 : World} {b o j lo hi : Nat} {pre suf : List D} {x : D} {Q : Int}
theorem mark_heap (hb1 : Below wr.heap.size ((wr.setCell ⟨b, o + j * 4, none⟩ (.int .i64 Q)).setCell ⟨b, o + j * 4 + 1, none⟩ (.int .i64 (Q + 1))) w1) (u : Value) (k : Nat) (hk : k < wr.heap.size) (hne : k ≠ b) :
    (w1.setCell ⟨b, o + j * 4 + 2, none⟩ u).heap[k]? = wr.heap[k]? := by
  rw [Below.heap_setCell _ _ _ _ hne, hb1.block k hk, Below.heap_setCell _ _ _ _ hne, Below.heap_setCell _ _ _ _ hne]
theorem mark_pre (hhi : hi ≤ wr.heap.size) (ho : OwnL lo hi wr (pre ++ x :: suf)) (hbn : b ∉ blksL (pre ++ x :: suf))
    (hb1 : Below wr.heap.size ((wr.setCell ⟨b, o + j * 4, none⟩ (.int .i64 Q)).setCell ⟨b, o + j * 4 + 1, none⟩ (.int .i64 (Q + 1))) w1) (u : Value) : Own lo hi (w1.setCell ⟨b, o + j * 4 + 2, none⟩ u) x :=
  ho.mid.keepB fun k hk => mark_heap hb1 u k (by have := ho.mid.inn.blk_lt k hk; omega) (fun e => hbn (by subst e; simp [blksL_append, blksL, hk]))
theorem mark_round (hbw : b < wr.heap.size) (hhi : hi ≤ wr.heap.size) (hr : RowIs wr b o (pre ++ x :: suf)) (ho : OwnL lo hi wr (pre ++ x :: suf)) (hbn : b ∉ blksL (pre ++ x :: suf)) (hpre : pre.length = j)
    (hfr : ∀ q, wr.frozen? ⟨b, q, none⟩ = false) (hQ : Q + 2 ≤ 9223372036854775807)
    (hb1 : Below wr.heap.size ((wr.setCell ⟨b, o + j * 4, none⟩ (.int .i64 Q)).setCell ⟨b, o + j * 4 + 1, none⟩ (.int .i64 (Q + 1))) w1)
    (hown2 : (D.mk x.k x.n x.t x.A x.c (markL x.l (Q + 3))).Own lo hi w2) (hch2 : Chg x.blks (w1.setCell ⟨b, o + j * 4 + 2, none⟩ (.string (markB (Q + 2)))) w2) :
    RowIs w2 b o (pre ++ markD x Q :: suf) ∧ OwnL lo hi w2 (pre ++ markD x Q :: suf) ∧ (∀ q, w2.frozen? ⟨b, q, none⟩ = false) ∧ Chg (b :: blksL (pre ++ x :: suf)) wr w2 := by
  have hx : (pre ++ x :: suf)[j]? = some x := by rw [List.getElem?_append_right (by omega), hpre]; simp
  obtain ⟨c0, c1, c2, c3⟩ := hr j _ hx
  have hmx : ∀ k, k ∈ blks x → k ∈ blksL (pre ++ x :: suf) := fun k hk => by simp [blksL_append, blksL, hk]
  have hbx : b ∉ blks x := fun h => hbn (hmx b h)
  have hz := hb1.size
  simp only [World.size_setCell] at hz
  have hcb : ∀ q, w2.cell? ⟨b, q, none⟩ = (w1.setCell ⟨b, o + j * 4 + 2, none⟩ (.string (markB (Q + 2)))).cell? ⟨b, q, none⟩ := fun q => World.cell?_of_block (hch2.block b (by simp; omega) hbx)
  have hc1 : ∀ q, w1.cell? ⟨b, q, none⟩ = ((wr.setCell ⟨b, o + j * 4, none⟩ (.int .i64 Q)).setCell ⟨b, o + j * 4 + 1, none⟩ (.int .i64 (Q + 1))).cell? ⟨b, q, none⟩ := fun q => hb1.cell (p := ⟨b, q, none⟩) hbw
  have d2 : w1.cell? ⟨b, o + j * 4 + 2, none⟩ = some (.string x.t) := by rw [hc1, cell_set_ne _ _ _ _ _ (by omega), cell_set_ne _ _ _ _ _ (by omega)]; exact c2
  refine ⟨hr.upd hpre (fun q h0 h1 h2 => ?_) ?_ ?_ ?_ ?_ ?_ ?_, ho.put (fun k hk => ?_) ?_ (blks_mark x Q), fun q => ?_, ?_⟩
  · rw [hcb, cell_set_ne _ _ _ _ _ h2, hc1, cell_set_ne _ _ _ _ _ h1, cell_set_ne _ _ _ _ _ h0]
  · rw [hcb, cell_set_ne _ _ _ _ _ (by omega), hc1, cell_set_ne _ _ _ _ _ (by omega), cell_set_eq c0]
    cases x; rfl
  · rw [hcb, cell_set_ne _ _ _ _ _ (by omega), hc1, cell_set_eq (v := .int .i64 x.n) (by rw [cell_set_ne _ _ _ _ _ (by omega)]; exact c1)]
    cases x; rfl
  · rw [hcb, cell_set_eq d2]
    cases x; rfl
  · cases x; rfl
  · cases x; simp only [markD, D.l, markL_length]
  · cases x; rfl
  · have h1 : k < wr.heap.size := by
      have : k ∈ blksL (pre ++ x :: suf) := by simp only [blksL_append, blksL, List.mem_append]; rcases hk with h | h <;> simp [h]
      have := ho.inn.blk_lt k this
      omega
    have h2 : k ≠ b := fun e => hbn (by subst e; simp only [blksL_append, blksL, List.mem_append]; rcases hk with h | h <;> simp [h])
    rw [hch2.block k (by simp; omega) (ho.mid_far k hk)]
    exact mark_heap hb1 _ k h1 h2
  · have := hown2.head (k' := Q) (n' := Q + 1) (t' := markB (Q + 2)) (by have := markB_size (Q + 2) hQ; omega)
    cases x
    exact this
  · rw [World.frozen?_of_block (hch2.block b (by simp; omega) hbx), World.frozen?_setCell, hb1.frozen (p := ⟨b, q, none⟩) hbw, World.frozen?_setCell, World.frozen?_setCell]
    exact hfr q
  · refine ⟨?_, ?_, ?_, ?_, fun k hk hn => ?_⟩
    · exact hch2.os.trans hb1.os
    · exact hch2.tape.trans hb1.tape
    · exact hch2.output.trans hb1.output
    · have := hch2.size; simp at this; omega
    · rw [List.mem_cons, not_or] at hn
      rw [hch2.block k (by simp; omega) (fun h => hn.2 (hmx k h))]
      exact mark_heap hb1 _ k hk hn.1
end
end D

end Go.Proofs.YtpigpncbjckbcaaDoor

namespace Go.Proofs.YtpigpncbjckbcaaDoor
open Go.RowKit

theorem markL_get (l : List D) (j : Nat) (h : j < l.length) : ∀ q, (D.markL l q)[j]? = some (D.markD l[j] (q + 3 * D.sizeL (l.take j))) := by
  induction l generalizing j with
  | nil => simp at h
  | cons d r ih =>
    intro q
    cases j with
    | zero => simp [D.markL, D.sizeL]
    | succ j =>
      simp at h
      simp only [D.markL, List.getElem?_cons_succ, List.getElem_cons_succ, List.take_succ_cons, D.sizeL]
      rw [ih j h]
      congr 2
      omega

end Go.Proofs.YtpigpncbjckbcaaDoor
