/-
  Scopes: kinds and sets; the model's and the program's functions on them.
-/
import Derived.Test.YtknplopghgchaaaInts
namespace Go.Proofs.Ytknplopghgchaaa
open Go.RowKit

/-- The kind of a scope, or 0. -/
def kindI (n : Int) : Int := if 1 ≤ n ∧ n ≤ 99999 then (if n % 3 = 0 then 3 else n % 3) else 0
theorem kindI_zero {n : Int} : kindI n = 0 ↔ ¬ (1 ≤ n ∧ n ≤ 99999) := by
  unfold kindI
  split
  · split <;> omega
  · simp [*]
def setFrom : Int → List Int → Bool | _, [] => true | p, n :: r => decide (p < n) && (decide (n ≤ 99999) && setFrom n r)
/-- A set of scopes. -/
def isSetI (l : List Int) : Bool := setFrom 0 l
def prevI (l : List Int) : Nat → Int | 0 => 0 | j + 1 => l.getD j 0

theorem setFrom_pairwise : ∀ (l : List Int) (p : Int), setFrom p l = true → l.Pairwise (· < ·) ∧ ∀ x ∈ l, p < x ∧ x ≤ 99999 := by
  intro l
  induction l with
  | nil => intro p _; simp
  | cons n r ih =>
    intro p h
    simp [setFrom] at h
    obtain ⟨h1, h2, h3⟩ := h
    obtain ⟨i1, i2⟩ := ih n h3
    refine ⟨List.pairwise_cons.2 ⟨fun x hx => (i2 x hx).1, i1⟩, fun x hx => ?_⟩
    rcases List.mem_cons.1 hx with rfl | hx
    · exact ⟨h1, h2⟩
    · have := i2 x hx
      omega

set_option maxHeartbeats 400000 in
theorem specKind_any (n : Int) (w : World) : Calls Try.prog 34 #[.int .i64 n] w fun e w' => e = .returned (.int .i64 (kindI n)) ∧ Below w.heap.size w w' := by
  by_cases h : 1 ≤ n ∧ n ≤ 99999
  · obtain ⟨h1, h2⟩ := h
    obtain ⟨m, rfl⟩ := Int.eq_ofNat_of_zero_le (show 0 ≤ n by omega)
    have hk : kindI m = if (m : Int) % 3 = 0 then 3 else (m : Int) % 3 := by unfold kindI; rw [if_pos ⟨h1, h2⟩]
    have Hk := Lib.hid hk
    clear hk
    have e : (m : Int) % 3 = 0 ∨ (m : Int) % 3 = 1 ∨ (m : Int) % 3 = 2 := by omega
    rcases e with e | e | e
    all_goals
      rw [e] at Hk
      have q0 : ¬ ((m : Int) % 3 < 0) := by omega
      have q1 : (m : Int) % 3 < 3 := by omega
      have ee : m % 3 = ((m : Int) % 3).toNat := by omega
      rw [e] at ee
      go_enter Try.func34, Try.ntmps34
      go_wp2_with go_in
      go_ret
      refine ⟨ret_int ?_, (Below.refl _ _).alloc (Nat.le_refl _) _⟩
      rw [Hk.out]
      rfl
  · have hk : kindI n = 0 := by unfold kindI; rw [if_neg h]
    have Hk := Lib.hid hk
    clear hk
    by_cases h1 : 1 ≤ n
    · have h2 : ¬ n ≤ 99999 := fun h2 => h ⟨h1, h2⟩
      clear h
      go_enter Try.func34, Try.ntmps34
      go_wp2_with go_in
      go_ret
      exact ⟨ret_int Hk.out.symm, Below.refl _ _⟩
    · clear h
      go_enter Try.func34, Try.ntmps34
      go_wp2_with go_in
      go_ret
      exact ⟨ret_int Hk.out.symm, Below.refl _ _⟩

set_option maxHeartbeats 400000 in
theorem implIsScope_any (n : Int) (w : World) : Calls Try.prog 105 #[.int .i64 n] w fun e w' => e = .returned (.bool (decide (1 ≤ n) && decide (n ≤ 99999))) ∧ w' = w := by
  by_cases h1 : 1 ≤ n <;> by_cases h2 : n ≤ 99999
  all_goals
    go_enter Try.func105, Try.ntmps105
    go_wp2_with fail
    go_ret
    exact ⟨ret_bool (by simp [h1, h2]), rfl⟩

set_option maxHeartbeats 400000 in
theorem implKind_any (n : Int) (w : World) : Calls Try.prog 52 #[.int .i64 n] w fun e w' => e = .returned (.int .i64 (kindI n)) ∧ w' = w := by
  by_cases h : 1 ≤ n ∧ n ≤ 99999
  · obtain ⟨h1, h2⟩ := h
    have hb : (decide (1 ≤ n) && decide (n ≤ 99999)) = true := by simp [h1, h2]
    obtain ⟨m, rfl⟩ := Int.eq_ofNat_of_zero_le (show 0 ≤ n by omega)
    have hk : kindI m = if (m : Int) % 3 = 0 then 3 else (m : Int) % 3 := by unfold kindI; rw [if_pos ⟨h1, h2⟩]
    have Hk := Lib.hid hk
    clear hk
    have e : (m : Int) % 3 = 0 ∨ (m : Int) % 3 = 1 ∨ (m : Int) % 3 = 2 := by omega
    rcases e with e | e | e
    all_goals
      rw [e] at Hk
      go_enter Try.func52, Try.ntmps52
      go_wp2_with (go_at_call 105; refine (implIsScope_any _ _).mono ?_; rintro e' w' ⟨rfl, rfl⟩; rw [hb])
      go_ret
      refine ⟨ret_int ?_, rfl⟩
      rw [Hk.out]
      rfl
  · have hk : kindI n = 0 := by unfold kindI; rw [if_neg h]
    have Hk := Lib.hid hk
    clear hk
    have hb : (decide (1 ≤ n) && decide (n ≤ 99999)) = false := by simpa using h
    go_enter Try.func52, Try.ntmps52
    go_wp2_with (go_at_call 105; refine (implIsScope_any _ _).mono ?_; rintro e' w' ⟨rfl, rfl⟩; rw [hb])
    go_ret
    exact ⟨ret_int Hk.out.symm, rfl⟩
end Go.Proofs.Ytknplopghgchaaa
