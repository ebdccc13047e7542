/-
  The model's l8Apply (written by gen/app9.py).
-/
import Derived.Test.YtnldlbglgalbaabApH
namespace Go.Proofs.Ytnldlbglgalbaab
open Go.RowKit
set_option maxRecDepth 100000 in
set_option maxHeartbeats 4000000 in
theorem sprimN_x (w : World) : Calls Try.prog 30 #[] w fun e w' => e = .returned (.slice (some ⟨w.heap.size, 0, none⟩) 14 14) ∧ D.Blk w' w.heap.size 9 #[.string ⟨#[43]⟩, .string ⟨#[45]⟩, .string ⟨#[42]⟩, .string ⟨#[61]⟩, .string ⟨#[60]⟩, .string ⟨#[99, 111, 110, 115]⟩, .string ⟨#[99, 97, 114]⟩, .string ⟨#[99, 100, 114]⟩, .string ⟨#[110, 117, 108, 108, 63]⟩, .string ⟨#[112, 97, 105, 114, 63]⟩, .string ⟨#[110, 117, 109, 98, 101, 114, 63]⟩, .string ⟨#[101, 113, 63]⟩, .string ⟨#[110, 111, 116]⟩, .string ⟨#[100, 105, 115, 112, 108, 97, 121]⟩] ∧ Below w.heap.size w w' := by
  go_enter Try.func30, Try.ntmps30
  go_wp2_with fail
  go_ret
  exact ⟨rfl, D.Blk.new _ _ _, (Below.refl _ _).alloc (Nat.le_refl _) _⟩
theorem Pq.okF_at : ∀ (l : List Pq) (i : Int), Pq.okF l i = true → ∀ (j : Nat) (h : j < l.length), l[j].h.ok (i + j) = true ∧ l[j].u.ok (i + j) = true
  | [], _, _, j, h => absurd h (Nat.not_lt_zero j)
  | x :: r, i, hk, j, h => by
    unfold Pq.okF at hk
    rw [Bool.and_eq_true, Bool.and_eq_true] at hk
    cases j with
    | zero => simpa using hk.1
    | succ j =>
      have h2 : j < r.length := by simpa using h
      have := Pq.okF_at r (i + 1) hk.2 j h2
      have e : i + 1 + (j : Int) = i + ((j + 1 : Nat) : Int) := by omega
      rw [e] at this
      exact this
theorem out_val (p : Int) (v : Vu) (q : Int) (h : v.ok q = true) : outP p (some v) = (v, ⟨#[]⟩) := by
  unfold outP
  exact if_neg fun g => g.2 (Vu.ok_num h g.1)
theorem Vu.false_text {v : Vu} {q : Int} (h : v.ok q = true) : (v.k == 2 && (v.n == 0 && v.t.toList == [])) = (v.k == 2 && v.n == 0) := by
  cases e : (v.k == 2)
  · rfl
  have hk : v.k = 2 := by simpa using e
  unfold ok at h
  rw [hk] at h
  have e2 : okv 2 v.n v.t q = (decide (0 ≤ v.n ∧ v.n ≤ 1) && (v.t.toList.isEmpty && decide (0 = 0))) := rfl
  rw [e2, Bool.and_eq_true, Bool.and_eq_true] at h
  rw [isEmpty_beq, h.2.1, Bool.and_true]
end Go.Proofs.Ytnldlbglgalbaab
