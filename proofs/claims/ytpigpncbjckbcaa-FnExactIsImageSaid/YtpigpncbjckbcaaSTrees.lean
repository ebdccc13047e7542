/-
  The laws' own functions on syntax objects: sizes.
-/
import Derived.Test.YtpigpncbjckbcaaSBase
import Derived.Test.YtpigpncbjckbcaaTrees
import Derived.Test.YtpigpncbjckbcaaProg
import Derived.Handy
import Derived.WalkSpells
import Derived.Deep.RegionHeld3
namespace Go.Proofs.Ytpigpncbjckbcaa
open Go.RowKit

theorem sbulkL_take_le (l : List S) (j : Nat) : S.bulkL (l.take j) + (l.length - j) ≤ S.bulkL l := by
  have h := S.bulkL_append (l.take j) (l.drop j)
  rw [List.take_append_drop] at h
  have h2 : ∀ r : List S, r.length ≤ S.bulkL r := fun r => by
    induction r with
    | nil => simp
    | cons d r ih => simp [S.bulkL]; omega
  have := h2 (l.drop j)
  rw [List.length_drop] at this
  omega
theorem sbulkL_take_succ (l : List S) (j : Nat) (h : j < l.length) : S.bulkL (l.take (j + 1)) = S.bulkL (l.take j) + 1 + l[j].bulk := by
  rw [List.take_succ_eq_append_getElem h, S.bulkL_append]; simp [S.bulkL]; omega
theorem ssizeL_get_le (l : List S) (j : Nat) (h : j < l.length) : l[j].size ≤ S.sizeL l := S.sizeL_mem (List.getElem_mem h)

end Go.Proofs.Ytpigpncbjckbcaa

namespace Go.Proofs.Ytpigpncbjckbcaa
open Go.RowKit

/-- Returned: a syntax object of the call's own that is this one, apart from its places. -/
def RetS (x : S) (w : World) (e : Ending) (w' : World) : Prop := ∃ d : S, e = .returned d.val ∧ d.er = x ∧ d.Own w.heap.size w'.heap.size w' ∧ Below w.heap.size w w'
/-- Returned: a list of syntax objects of the call's own, at the head of a block. -/
def RetSL (x : List S) (w : World) (e : Ending) (w' : World) : Prop := ∃ (A : Option Addr) (c : Nat) (l : List S), e = .returned (.slice A l.length c) ∧ S.erL l = x ∧ l.length ≤ c ∧ c ≤ 9223372036854775807 ∧ S.OwnL w.heap.size w'.heap.size w' l ∧
    (l ≠ [] → ∃ g, A = some ⟨g, 0, none⟩ ∧ g ∉ S.blksL l ∧ w.heap.size ≤ g ∧ g < w'.heap.size ∧ (∀ o, w'.frozen? ⟨g, o, none⟩ = false) ∧ (∀ j u, (S.cellsL l)[j]? = some u → w'.cell? ⟨g, j, none⟩ = some u)) ∧ Below w.heap.size w w'

theorem sbulk_mem {l : List S} {d : S} (h : d ∈ l) : d.bulk ≤ S.bulkL l := by
  induction l with
  | nil => cases h
  | cons e r ih =>
    simp only [S.bulkL]
    rcases List.mem_cons.1 h with rfl | h
    · omega
    · have := ih h; omega

end Go.Proofs.Ytpigpncbjckbcaa

namespace Go.Proofs.Ytpigpncbjckbcaa
open Go.RowKit

theorem seqL_take (l l' : List S) (j : Nat) (h : j < l.length) (h' : j < l'.length) (ht : S.eqL (l.take j) (l'.take j) = true) : S.eqL l l' = (S.eqB l[j] l'[j] && S.eqL (l.drop (j + 1)) (l'.drop (j + 1))) := by
  induction j generalizing l l' with
  | zero =>
    match l, l' with
    | [], _ => simp at h
    | _ :: _, [] => simp at h'
    | a :: r, b :: s => simp [S.eqL]
  | succ j ih =>
    match l, l' with
    | [], _ => simp at h
    | _ :: _, [] => simp at h'
    | a :: r, b :: s =>
      simp [S.eqL] at ht h h' ⊢
      rw [ht.1, ih r s h h' ht.2]
      simp
theorem seqL_take_succ (l l' : List S) (j : Nat) (h : j < l.length) (h' : j < l'.length) : S.eqL (l.take (j + 1)) (l'.take (j + 1)) = (S.eqL (l.take j) (l'.take j) && S.eqB l[j] l'[j]) := by
  induction j generalizing l l' with
  | zero =>
    match l, l' with
    | [], _ => simp at h
    | _ :: _, [] => simp at h'
    | a :: r, b :: s => simp [S.eqL]
  | succ j ih =>
    match l, l' with
    | [], _ => simp at h
    | _ :: _, [] => simp at h'
    | a :: r, b :: s =>
      simp at h h'
      have := ih r s h h'
      simp [S.eqL] at this ⊢
      rw [this, Bool.and_assoc]
theorem seqL_length (l l' : List S) (h : l.length ≠ l'.length) : S.eqL l l' = false := by
  induction l generalizing l' with
  | nil => cases l' with
    | nil => simp at h
    | cons _ _ => rfl
  | cons a r ih => cases l' with
    | nil => rfl
    | cons b s =>
      simp at h
      simp [S.eqL, ih s h]

end Go.Proofs.Ytpigpncbjckbcaa
