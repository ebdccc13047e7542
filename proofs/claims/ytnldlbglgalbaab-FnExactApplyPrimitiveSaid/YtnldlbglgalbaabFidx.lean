/-
  The index of the first element of a kind. Nothing of the program.
-/
import Derived.Test.YtnldlbglgalbaabTr
namespace Go.Proofs.Ytnldlbglgalbaab

/-- The index of the first one, or -1. -/
def fidx {α : Type} (p : α → Bool) (l : List α) : Int := match l.findIdx? p with | some i => i | none => -1
theorem fidx_take {α : Type} {p : α → Bool} {l : List α} {j : Nat} (h : j < l.length) (hn : ∀ x ∈ l.take j, p x = false) (hy : p l[j] = true) : fidx p l = j := by
  unfold fidx
  have : l.findIdx? p = some j := by
    rw [List.findIdx?_eq_some_iff_getElem]
    refine ⟨h, hy, fun i hi => ?_⟩
    have := hn l[i] (List.mem_take_iff_getElem.2 ⟨i, by omega, rfl⟩)
    simp [this]
  rw [this]
theorem fidx_none {α : Type} {p : α → Bool} {l : List α} (hn : ∀ x ∈ l, p x = false) : fidx p l = -1 := by
  unfold fidx
  have : l.findIdx? p = none := by rw [List.findIdx?_eq_none_iff]; exact hn
  rw [this]
theorem none_succ {α : Type} {p : α → Bool} {l : List α} {j : Nat} (h : j < l.length) (hn : ∀ x ∈ l.take j, p x = false) (hy : p l[j] = false) : ∀ x ∈ l.take (j + 1), p x = false := by
  intro x hx
  rw [List.take_succ_eq_append_getElem h] at hx
  rcases List.mem_append.1 hx with hx | hx
  · exact hn x hx
  · simp at hx; subst hx; exact hy
theorem find_none {α : Type} {p : α → Bool} {l : List α} (hn : ∀ x ∈ l, p x = false) : l.find? p = none := by
  rw [List.find?_eq_none]
  intro x hx
  simp [hn x hx]
theorem find_take {α : Type} {p : α → Bool} {l : List α} {j : Nat} (h : j < l.length) (hn : ∀ x ∈ l.take j, p x = false) (hy : p l[j] = true) : l.find? p = some l[j] := by
  conv => lhs; rw [← List.take_append_drop j l]
  rw [List.find?_append, find_none hn, List.drop_eq_getElem_cons h, List.find?_cons_of_pos hy]
  rfl
theorem fidx_find {α : Type} (p : α → Bool) (l : List α) : (fidx p l = -1 ∧ l.find? p = none) ∨ ∃ (j : Nat) (h : j < l.length), fidx p l = j ∧ l.find? p = some l[j] := by
  cases h : l.findIdx? p with
  | none =>
    left
    rw [List.findIdx?_eq_none_iff] at h
    exact ⟨fidx_none h, find_none h⟩
  | some i =>
    right
    obtain ⟨hi, hy, hn⟩ := List.findIdx?_eq_some_iff_getElem.1 h
    have hn' : ∀ x ∈ l.take i, p x = false := by
      intro x hx
      obtain ⟨j, hj, rfl⟩ := List.mem_take_iff_getElem.1 hx
      simpa using hn j (by omega)
    exact ⟨i, hi, fidx_take hi hn' hy, find_take hi hn' hy⟩
end Go.Proofs.Ytnldlbglgalbaab
