/-
  The datum of a syntax object: the program.
-/
import Derived.Test.YtjgpekfnfmabbaaDoorSTrees
import Derived.Test.YtjgpekfnfmabbaaDoorSNode
import Derived.Test.YtjgpekfnfmabbaaDoorSCount
import Derived.Test.YtjgpekfnfmabbaaDoorTrees
import Derived.Deep.RegionHeld3
namespace Go.Proofs.YtjgpekfnfmabbaaDoor
open Go.RowKit

mutual
/-- The datum of a syntax object, without scopes. -/
def datD : S → D | .mk k n t _ _ _ _ _ l => .mk k n t none 0 (datL l)
def datL : List S → List D | [] => [] | d :: r => datD d :: datL r
end
theorem datL_map (l : List S) : datL l = l.map datD := by
  induction l with
  | nil => rfl
  | cons d r ih => simp [datL, ih]
theorem datL_append (a b : List S) : datL (a ++ b) = datL a ++ datL b := by simp [datL_map]
theorem datL_length (a : List S) : (datL a).length = a.length := by simp [datL_map]
theorem datD_er (d : S) : datD d.er = datD d := by
  induction d using S.ind with
  | h d ih =>
    cases d with
    | mk k n t sa sc s A c l =>
      have key : ∀ (a : List S), (∀ x ∈ a, x ∈ l) → datL (S.erL a) = datL a := by
        intro a
        induction a with
        | nil => intro _; rfl
        | cons x r ih2 => intro hs; have h1 := ih x (hs x (by simp)); have h2 := ih2 fun y hy => hs y (by simp [hy]); simp only [S.erL, datL, h1, h2]
      have h3 := key l (fun _ h => h)
      simp only [S.er, datD, h3]
theorem er_datD (d : S) : (datD d).er = datD d := by
  induction d using S.ind with
  | h d ih =>
    cases d with
    | mk k n t sa sc s A c l =>
      have key : ∀ (a : List S), (∀ x ∈ a, x ∈ l) → D.erL (datL a) = datL a := by
        intro a
        induction a with
        | nil => intro _; rfl
        | cons x r ih2 => intro hs; have h1 := ih x (hs x (by simp)); have h2 := ih2 fun y hy => hs y (by simp [hy]); simp only [D.erL, datL, h1, h2]
      have h3 := key l (fun _ h => h)
      simp only [D.er, datD, h3]
theorem size_datD (d : S) : (datD d).size = d.size := by
  induction d using S.ind with
  | h d ih =>
    cases d with
    | mk k n t sa sc s A c l =>
      have key : ∀ (a : List S), (∀ x ∈ a, x ∈ l) → D.sizeL (datL a) = S.sizeL a := by
        intro a
        induction a with
        | nil => intro _; rfl
        | cons x r ih2 => intro hs; have h1 := ih x (hs x (by simp)); have h2 := ih2 fun y hy => hs y (by simp [hy]); simp only [D.sizeL, S.sizeL, datL, h1, h2]
      have h3 := key l (fun _ h => h)
      simp only [D.size, S.size, datD, h3]
theorem bulk_datD (d : S) : (datD d).bulk ≤ d.bulk := by
  induction d using S.ind with
  | h d ih =>
    cases d with
    | mk k n t sa sc s A c l =>
      have key : ∀ (a : List S), (∀ x ∈ a, x ∈ l) → D.bulkL (datL a) ≤ S.bulkL a := by
        intro a
        induction a with
        | nil => intro _; exact Nat.le_refl _
        | cons x r ih2 => intro hs; have h1 := ih x (hs x (by simp)); have h2 := ih2 fun y hy => hs y (by simp [hy]); simp only [D.bulkL, S.bulkL, datL]; omega
      have h3 := key l (fun _ h => h)
      simp only [D.bulk, S.bulk, datD]; omega
theorem datD_of_er {d e : S} (h : d.er = e.er) : datD d = datD e := by rw [← datD_er d, h, datD_er]

end Go.Proofs.YtjgpekfnfmabbaaDoor
