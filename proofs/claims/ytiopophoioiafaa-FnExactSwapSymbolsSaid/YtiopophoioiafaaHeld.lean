/-
  The laws' own functions on data: whether the marks are still there.
-/
import Derived.Test.YtiopophoioiafaaMark
import Derived.Deep.RegionHeld3
namespace Go.Proofs.Ytiopophoioiafaa
open Go.RowKit

def HeldOk (m : Nat) : Prop := ∀ (d : D) (B : Nat) (w : World) (q : Int), D.sizeL d.l ≤ m → m ≤ 2000000 → 0 ≤ q → q + 3 * D.sizeL d.l ≤ 1000000000 → (D.mk 0 0 ⟨#[]⟩ d.A d.c (D.markL d.l q)).In w B → B ≤ w.heap.size →
    Calls Try.prog 101 #[.slice d.A d.l.length d.c, .int .i64 q] w fun e w' => e = .returned (.int .i64 (q + 3 * D.sizeL d.l)) ∧ Below w.heap.size w w'

theorem markL_get (l : List D) (j : Nat) (h : j < l.length) : ∀ q, (D.markL l q)[j]? = some (D.markD l[j] (q + 3 * D.sizeL (l.take j))) := by
  induction l generalizing j with
  | nil => simp at h
  | cons d r ih =>
    intro q
    cases j with
    | zero => simp [D.markL, D.sizeL]
    | succ j =>
      simp at h
      simp only [D.markL, List.getElem?_cons_succ, List.getElem_cons_succ, List.take_succ_cons, D.sizeL]
      rw [ih j h]
      congr 2
      omega

set_option maxRecDepth 100000 in
set_option maxHeartbeats 1000000 in
theorem held_step (m : Nat) (ih : ∀ m', m' < m → HeldOk m') : HeldOk m := by
  intro d B w q hm hm2 hq0 hq hin hB
  obtain ⟨k, n, t, A, c, l⟩ := d
  have hcap := hin.cap
  simp only [D.l, D.c, D.A, D.markL_length] at *
  replace hcap : l.length ≤ c ∧ c ≤ 9223372036854775807 := ⟨hcap.1, hcap.2.1⟩
  go_enter Try.func101, Try.ntmps101
  go_wp2_with fail
  go_loopw [1, 5] (fun v i wr => ∃ j : Nat, j ≤ l.length ∧ i = .int .i64 j ∧ v = .int .i64 (q + 3 * (D.sizeL (l.take j) : Int)) ∧ Below w.heap.size w wr) (fun _ i _ => l.length - (intOf i).toNat)
  case atStart => exact ⟨0, Nat.zero_le _, rfl, by simp [D.sizeL], Below.refl _ _⟩
  case round =>
    obtain ⟨j, hj, rfl, rfl, hb⟩ := hrel
    have hs2 := hb.size
    by_cases hlt : j < l.length
    · obtain ⟨b, o, hA, hblk, c0, c1, c2, c3, hix⟩ := (hin.below (hb.mono hB)).at_ (i := j) (markL_get l j hlt q)
      simp only [D.A] at hA
      subst hA
      have hsz := D.sizeL_append (l.take j) (l.drop j)
      rw [List.take_append_drop, List.drop_eq_getElem_cons hlt] at hsz
      simp only [D.sizeL] at hsz
      have hsz1 : D.sizeL (l.take j) + (l[j].size + D.sizeL (l.drop (j + 1))) ≤ D.sizeL l := by omega
      have hsx : 1 + D.sizeL l[j].l ≤ l[j].size := Nat.le_of_eq (D.size_eq _).symm
      have hsx' : l[j].size ≤ 1 + D.sizeL l[j].l := Nat.le_of_eq (D.size_eq _)
      have HT : Hid (D.sizeL (l.take (j + 1)) = D.sizeL (l.take j) + l[j].size) := by
        show _ = _
        rw [List.take_succ_eq_append_getElem hlt, D.sizeL_append]; simp [D.sizeL]
      have e1 : (D.markD l[j] (q + 3 * (D.sizeL (l.take j) : Int))).k = q + 3 * (D.sizeL (l.take j) : Int) := by cases l[j]; rfl
      have e2 : (D.markD l[j] (q + 3 * (D.sizeL (l.take j) : Int))).n = q + 3 * (D.sizeL (l.take j) : Int) + 1 := by cases l[j]; rfl
      have e3 : (D.markD l[j] (q + 3 * (D.sizeL (l.take j) : Int))).t = markB (q + 3 * (D.sizeL (l.take j) : Int) + 1 + 1) := by
        rw [show q + 3 * (D.sizeL (l.take j) : Int) + 1 + 1 = q + 3 * (D.sizeL (l.take j) : Int) + 2 by omega]; cases l[j]; rfl
      have e4 : (D.markD l[j] (q + 3 * (D.sizeL (l.take j) : Int))).A = l[j].A := by cases l[j]; rfl
      have e5 : (D.markD l[j] (q + 3 * (D.sizeL (l.take j) : Int))).c = l[j].c := by cases l[j]; rfl
      have e6 : (D.markD l[j] (q + 3 * (D.sizeL (l.take j) : Int))).l.length = l[j].l.length := by cases l[j]; simp only [D.markD, D.l, D.markL_length]
      have e7 : D.markD l[j] (q + 3 * (D.sizeL (l.take j) : Int)) = D.mk (q + 3 * (D.sizeL (l.take j) : Int)) (q + 3 * (D.sizeL (l.take j) : Int) + 1) (markB (q + 3 * (D.sizeL (l.take j) : Int) + 2)) l[j].A l[j].c (D.markL l[j].l (q + 3 * (D.sizeL (l.take j) : Int) + 3)) := by cases l[j]; rfl
      rw [e1] at c0
      rw [e2] at c1
      rw [e3] at c2
      rw [e4, e5, e6] at c3
      rw [e7] at hix
      clear e1 e2 e3 e4 e5 e6 e7 hsz
      have q1 : b < wr.heap.size := by omega
      have g1 : (0 : Int) ≤ (j : Int) := by omega
      have g2 : (j : Int) < (l.length : Int) := by omega
      go_wp2_with fail
      go_region_held3 (fun w' => w'.cell? ⟨b, o + j * 4 + 2, none⟩ = some (.string (markB (q + 3 * (D.sizeL (l.take j) : Int) + 1 + 1)))) (go_keep)
        ((go_at_call 104; refine (markText_any _ _ ?_).mono ?_; omega; rintro e w1 ⟨rfl, hb1⟩; have a2 := (hb1.cell (p := ⟨b, o + j * 4 + 2, none⟩) q1).trans c2))
      have hb2 : Below w.heap.size w w1 := hb.trans ((below_undrew hb1).mono (show w.heap.size ≤ wr.heap.size by omega))
      have hz : wr.heap.size ≤ w1.heap.size := hb1.size
      have a3 := (hb1.cell (p := ⟨b, o + j * 4 + 3, none⟩) q1).trans c3
      have hix1 := hix.below (w' := w1) ((below_undrew hb1).mono (show B ≤ wr.heap.size by omega))
      have Hb1 := Lib.hid hb1
      clear hb1 c0 c1 c2 c3
      go_wp2_with fail
      refine (ih (D.sizeL l[j].l) (by omega) l[j] B _ _ (Nat.le_refl _) (by omega) (by omega) (by omega) ?_ (by omega)).mono ?_
      · rw [show q + 3 * (D.sizeL (l.take j) : Int) + 1 + 1 + 1 = q + 3 * (D.sizeL (l.take j) : Int) + 3 by omega]
        obtain ⟨h1, h2, h3⟩ := hix1
        exact ⟨⟨h1.1, h1.2.1, Nat.zero_le _⟩, h2, h3⟩
      rintro e w2 ⟨rfl, hb3⟩
      have hpos : ¬ (q + 3 * (D.sizeL (l.take j) : Int) + 1 + 1 + 1 + 3 * (D.sizeL l[j].l : Int) < 0) := by omega
      go_wp2_with fail
      refine ⟨⟨j + 1, by omega, by go_num, by rw [HT.out]; congr 1; omega, hb2.trans (hb3.mono (by omega))⟩, by simp [intOf]; omega⟩
    · have hj' : j = l.length := by omega
      subst hj'
      go_wp2_with fail
      go_ret
      exact ⟨ret_int (by rw [List.take_length]), hb⟩
theorem held_any (m : Nat) : HeldOk m := by
  induction m using Nat.strongRecOn with
  | _ m ih => exact held_step m ih
end Go.Proofs.Ytiopophoioiafaa
