/-
  The size of a datum does not hang on where it lies.
-/
import Derived.Test.YtbeikpbnidbjfaaTrees
namespace Go.Proofs.Ytbeikpbnidbjfaa
open Go.RowKit

namespace D
theorem bulk_er : ∀ d : D, bulk (er d) = bulk d := by
  intro d
  induction d using ind with
  | h d ih =>
    cases d with
    | mk k n t A c l =>
      have key : ∀ (a : List D), (∀ x ∈ a, x ∈ l) → bulkL (erL a) = bulkL a := by
        intro a
        induction a with
        | nil => intro _; rfl
        | cons x r ih2 =>
          intro hs
          simp only [bulkL, erL, ih x (hs x (by simp)), ih2 fun y hy => hs y (by simp [hy])]
      simp only [er, bulk, key l (fun _ h => h)]
theorem bulk_of_er {d e : D} (h : er d = er e) : d.bulk = e.bulk := by rw [← bulk_er, h, bulk_er]
theorem In.keepH {w w' : World} {B : Nat} {d : D} (h : In w B d) (hk : ∀ k, k ∈ blks d → w'.heap[k]? = w.heap[k]?) : In w' B d :=
  h.keepB fun _ hp => World.cell?_of_block (hk _ hp)
end D
end Go.Proofs.Ytbeikpbnidbjfaa
