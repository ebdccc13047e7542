/-
  The law on SyntaxOf, walked.
-/
import Derived.Test.YtndckeodpoommaaSynOf
import Derived.Test.YtndckeodpoommaaSMarks
import Derived.Deep.RegionHeld3
namespace Go.Proofs.Ytndckeodpoommaa
open Go.RowKit

namespace S
theorem bulkL_er (l : List S) : bulkL (erL l) = bulkL l ∧ wtL (erL l) = wtL l := by
  have key : ∀ d : S, bulk (er d) = bulk d ∧ wt (er d) = wt d := by
    intro d
    induction d using ind with
    | h d ih =>
      cases d with
      | mk k n t sa sc s A c l =>
        have key : ∀ (a : List S), (∀ x ∈ a, x ∈ l) → bulkL (erL a) = bulkL a ∧ wtL (erL a) = wtL a := by
          intro a
          induction a with
          | nil => intro _; exact ⟨rfl, rfl⟩
          | cons x r ih2 =>
            intro hs
            have h1 := ih x (hs x (by simp))
            have h2 := ih2 fun y hy => hs y (by simp [hy])
            simp only [bulkL, wtL, erL, h1.1, h1.2, h2.1, h2.2, and_self]
        have h := key l (fun _ h => h)
        simp only [er, bulk, wt, h.1, h.2, and_self]
  induction l with
  | nil => exact ⟨rfl, rfl⟩
  | cons x r ih => simp only [bulkL, wtL, erL, (key x).1, (key x).2, ih.1, ih.2, and_self]
theorem bulk_er (d : S) : bulk (er d) = bulk d := by cases d; simp only [er, bulk, (bulkL_er _).1]
theorem wt_er (d : S) : wt (er d) = wt d := by cases d; simp only [er, wt, (bulkL_er _).2]
theorem wt_le (d : S) : wt d ≤ 3 * size d + bulk d := by
  induction d using ind with
  | h d ih =>
    cases d with
    | mk k n t sa sc s A c l =>
      have key : ∀ (a : List S), (∀ x ∈ a, x ∈ l) → wtL a ≤ 3 * sizeL a + bulkL a := by
        intro a
        induction a with
        | nil => intro _; simp [wtL]
        | cons x r ih2 =>
          intro hs
          have h1 := ih x (hs x (by simp))
          have h2 := ih2 fun y hy => hs y (by simp [hy])
          simp only [wtL, sizeL, bulkL]
          omega
      have := key l (fun _ h => h)
      simp only [wt, size, bulk]
      omega
/-- The bounds of what equals x. -/
theorem bounds_of {g x : S} (h : g.er = x) (hx : x.size ≤ 1048577) (hb : x.bulk ≤ 1048576) : g.size ≤ 2000000 ∧ g.bulk ≤ 2000000 ∧ wtL g.l ≤ 90000000 := by
  have h1 : g.size ≤ 1048577 := by rw [← size_er, h]; exact hx
  have h2 : g.bulk ≤ 1048576 := by rw [← bulk_er, h]; exact hb
  have h3 := wt_le g
  have h4 := wt_eq g
  omega
end S

theorem syn_bounds {g : S} {a : D} (h : g.er = synD a) (hb : a.bulk ≤ 1048576) : g.size ≤ 2000000 ∧ g.bulk ≤ 2000000 ∧ S.wtL g.l ≤ 90000000 := by
  have hs := D.bulk_size a
  unfold synD at h
  split at h
  · exact S.bounds_of h (by rw [size_ofD]; omega) (by rw [bulk_ofD]; exact hb)
  · exact S.bounds_of h (by decide) (by decide)

end Go.Proofs.Ytndckeodpoommaa
