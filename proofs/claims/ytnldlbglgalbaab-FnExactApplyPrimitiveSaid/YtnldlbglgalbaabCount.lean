/-
  Counting nodes and depths.
-/
import Derived.Test.YtnldlbglgalbaabTrees
namespace Go.Proofs.Ytnldlbglgalbaab
open Go.RowKit
namespace D
theorem depth_er (d : D) : depth (er d) = depth d := by
  induction d using ind with
  | h d ih =>
    cases d with
    | mk k n t A c l =>
      have key : ∀ (a : List D), (∀ x ∈ a, x ∈ l) → depthL (erL a) = depthL a := by
        intro a
        induction a with
        | nil => intro _; rfl
        | cons x r ih2 =>
          intro hs
          simp only [depthL, erL, ih x (hs x (by simp)), ih2 fun y hy => hs y (by simp [hy])]
      simp only [er, depth, key l (fun _ h => h)]
theorem depth_of_er {d e : D} (h : er d = er e) : d.depth = e.depth := by rw [← depth_er, h, depth_er]
theorem depth_le_size (d : D) : d.depth ≤ d.size := by
  induction d using ind with
  | h d ih =>
    cases d with
    | mk k n t A c l =>
      have key : ∀ (a : List D), (∀ x ∈ a, x ∈ l) → depthL a ≤ sizeL a := by
        intro a
        induction a with
        | nil => intro _; simp [depthL]
        | cons x r ih2 =>
          intro hs
          have := ih x (hs x (by simp))
          have := ih2 fun y hy => hs y (by simp [hy])
          simp only [depthL, sizeL]
          omega
      have := key l (fun _ h => h)
      simp only [depth, size]
      omega
end D

end Go.Proofs.Ytnldlbglgalbaab
