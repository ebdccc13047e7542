/-
  The laws' own functions on data: sizes.
-/
import Derived.Test.YtiopophoioiafaaDat
import Derived.Test.YtiopophoioiafaaProg
import Derived.Handy
import Derived.WalkSpells
namespace Go.Proofs.Ytiopophoioiafaa
open Go.RowKit

/-- What is left behind a datum of this bulk. -/
def szR (b : Nat) (left : Int) : Int := if (b : Int) ≤ left then left - b else -1
theorem szR_yes {b : Nat} {left : Int} (h : (b : Int) ≤ left) : szR b left = left - b := if_pos h
theorem szR_no {b : Nat} {left : Int} (h : ¬ (b : Int) ≤ left) : szR b left = -1 := if_neg h

def SzOk (m : Nat) : Prop := ∀ (d : D) (B : Nat) (w : World) (left : Int), d.size ≤ m → 0 ≤ left → left ≤ 1048576 → d.In w B → B ≤ w.heap.size →
    Calls Try.prog 27 #[d.val, .int .i64 left] w fun e w' => e = .returned (.int .i64 (szR d.bulk left)) ∧ Below w.heap.size w w'
def SzLOk (m : Nat) : Prop := ∀ (k n : Int) (t : ByteArray) (A : Option Addr) (c : Nat) (l : List D) (B : Nat) (w : World) (left : Int), D.sizeL l ≤ m → 0 ≤ left → left ≤ 1048576 → (D.mk k n t A c l).In w B → B ≤ w.heap.size →
    Calls Try.prog 94 #[.slice A l.length c, .int .i64 left] w fun e w' => e = .returned (.int .i64 (szR (D.bulkL l) left)) ∧ Below w.heap.size w w'

theorem bulkL_take_le (l : List D) (j : Nat) : D.bulkL (l.take j) + (l.length - j) ≤ D.bulkL l := by
  have h := D.bulkL_append (l.take j) (l.drop j)
  rw [List.take_append_drop] at h
  have h2 : ∀ r : List D, r.length ≤ D.bulkL r := fun r => by
    induction r with
    | nil => simp
    | cons d r ih => simp [D.bulkL]; omega
  have := h2 (l.drop j)
  rw [List.length_drop] at this
  omega
theorem bulkL_take_succ (l : List D) (j : Nat) (h : j < l.length) : D.bulkL (l.take (j + 1)) = D.bulkL (l.take j) + 1 + l[j].bulk := by
  rw [List.take_succ_eq_append_getElem h, D.bulkL_append]; simp [D.bulkL]; omega
theorem sizeL_get_le (l : List D) (j : Nat) (h : j < l.length) : l[j].size ≤ D.sizeL l := D.sizeL_mem (List.getElem_mem h)

set_option maxHeartbeats 400000 in
theorem szL_step (m : Nat) (ih : SzOk m) : SzLOk m := by
  intro k n t A c l B w left hm h0 hl hin hB
  have hcap := hin.cap
  simp only [D.l, D.c, D.t] at hcap
  by_cases hfit : (l.length : Int) ≤ left
  · have hn : ¬ (left - (l.length : Int) < 0) := by omega
    have hb0 := bulkL_take_le l 0
    go_enter Try.func94, Try.ntmps94
    go_wp2_with fail
    go_loopw [1, 5] (fun lf i wr => ∃ j : Nat, j ≤ l.length ∧ i = .int .i64 j ∧ (D.bulkL (l.take j) : Int) + (l.length - j : Nat) ≤ left ∧ lf = .int .i64 (left - D.bulkL (l.take j) - (l.length - j : Nat)) ∧ Below w.heap.size w wr) (fun _ i _ => l.length - (intOf i).toNat)
    case atStart => exact ⟨0, Nat.zero_le _, rfl, by simp [D.bulkL]; omega, by simp [D.bulkL], Below.refl _ _⟩
    case round =>
      obtain ⟨j, hj, rfl, hf, rfl, hb⟩ := hrel
      by_cases hlt : j < l.length
      · obtain ⟨b, o, rfl, hblk, c0, c1, c2, c3, hix⟩ := (hin.below (hb.mono hB)).at_ (i := j) (x := l[j]) (List.getElem?_eq_getElem hlt)
        have hs2 := hb.size
        have hsz := sizeL_get_le l j hlt
        have HS : Hid (D.bulkL (l.take (j + 1)) = D.bulkL (l.take j) + 1 + l[j].bulk) := bulkL_take_succ l j hlt
        have hle := bulkL_take_le l (j + 1)
        rw [HS.out] at hle
        go_wp2_with fail
        refine (ih l[j] B _ _ (by omega) (by omega) (by omega) hix (by omega)).mono ?_
        rintro e w1 ⟨rfl, hb1⟩
        by_cases hy : (l[j].bulk : Int) ≤ left - D.bulkL (l.take j) - (l.length - j : Nat)
        · rw [szR_yes hy]
          have hy2 : ¬ (left - (D.bulkL (l.take j) : Int) - (l.length - j : Nat) - (l[j].bulk : Int) < 0) := by omega
          go_wp2_with fail
          go_roundw
          case rel => exact ⟨j + 1, by omega, by go_num, by rw [HS.out]; omega, by rw [HS.out]; go_num, hb.trans (hb1.mono (by omega))⟩
          case measure => simp [intOf]; omega
        · rw [szR_no hy]
          go_wp2_with fail
          go_ret
          exact ⟨ret_int (by rw [szR_no (by omega)]), hb.trans (hb1.mono (by omega))⟩
      · have hj' : j = l.length := by omega
        subst hj'
        go_wp2_with fail
        go_ret
        rw [List.take_length] at *
        exact ⟨ret_int (by rw [szR_yes (by omega)]; omega), hb⟩
  · have hn : left - (l.length : Int) < 0 := by omega
    go_enter Try.func94, Try.ntmps94
    go_wp2_with fail
    go_ret
    have := bulkL_take_le l 0
    exact ⟨ret_int (by rw [szR_no (by omega)]), Below.refl _ _⟩

set_option maxHeartbeats 400000 in
theorem sz_any : ∀ m, SzOk m := by
  intro m
  induction m with
  | zero => intro d B w left h; have := d.size_pos; omega
  | succ m ih =>
    intro d B w left hm h0 hl hin hB
    obtain ⟨k, n, t, A, c, l⟩ := d
    have hL := szL_step m ih
    have hcap := hin.cap
    simp only [D.l, D.c, D.t] at hcap
    simp only [D.val, D.k, D.n, D.t, D.A, D.l, D.c]
    have hmm : D.sizeL l ≤ m := by simp only [D.size] at hm; omega
    by_cases hfit : (t.size : Int) ≤ left
    · have hn : ¬ (left - (t.size : Int) < 0) := by omega
      go_enter Try.func27, Try.ntmps27
      go_wp2_with fail
      refine (hL k n t A c l B _ _ hmm (by omega) (by omega) (hin.alloc hB _) (by simp; omega)).mono ?_
      rintro e w1 ⟨rfl, hb1⟩
      have hb : Below w.heap.size w w1 := ((Below.refl _ _).alloc (Nat.le_refl _) _).trans (hb1.mono (by simp))
      by_cases hy : (D.bulkL l : Int) ≤ left - t.size
      · rw [szR_yes hy]
        have hy2 : ¬ (left - (t.size : Int) - (D.bulkL l : Int) < 0) := by omega
        go_wp2_with fail
        go_ret
        exact ⟨ret_int (by simp only [D.bulk]; rw [szR_yes (by omega)]; omega), hb⟩
      · rw [szR_no hy]
        go_wp2_with fail
        go_ret
        exact ⟨ret_int (by simp only [D.bulk]; rw [szR_no (by omega)]), hb⟩
    · have hn : left - (t.size : Int) < 0 := by omega
      go_enter Try.func27, Try.ntmps27
      go_wp2_with fail
      go_ret
      exact ⟨ret_int (by simp only [D.bulk]; rw [szR_no (by omega)]), (Below.refl _ _).alloc (Nat.le_refl _) _⟩
theorem szL_any (m : Nat) : SzLOk m := szL_step m (sz_any m)
end Go.Proofs.Ytiopophoioiafaa
