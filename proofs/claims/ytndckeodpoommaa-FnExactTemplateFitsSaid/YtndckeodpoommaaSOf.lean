/-
  Syntax objects of data: the program's syntaxOf.
-/
import Derived.Test.YtndckeodpoommaaSTrees
import Derived.Test.YtndckeodpoommaaSCount
import Derived.Test.YtndckeodpoommaaTrees
import Derived.Deep.RegionHeld3
namespace Go.Proofs.Ytndckeodpoommaa
open Go.RowKit

mutual
/-- The syntax object of a datum, without scopes. -/
def ofD : D → S | .mk k n t _ _ l => .mk k n t none 0 [] none 0 (ofL l)
def ofL : List D → List S | [] => [] | d :: r => ofD d :: ofL r
end
theorem ofL_map (l : List D) : ofL l = l.map ofD := by
  induction l with
  | nil => rfl
  | cons d r ih => simp [ofL, ih]
theorem ofL_append (a b : List D) : ofL (a ++ b) = ofL a ++ ofL b := by simp [ofL_map]
theorem ofL_length (a : List D) : (ofL a).length = a.length := by simp [ofL_map]
theorem ofD_er (d : D) : ofD d.er = ofD d := by
  induction d using D.ind with
  | h d ih =>
    cases d with
    | mk k n t A c l =>
      have key : ∀ (a : List D), (∀ x ∈ a, x ∈ l) → ofL (D.erL a) = ofL a := by
        intro a
        induction a with
        | nil => intro _; rfl
        | cons x r ih2 => intro hs; simp only [D.erL, ofL, ih x (hs x (by simp)), ih2 fun y hy => hs y (by simp [hy])]
      simp only [D.er, ofD, key l (fun _ h => h)]
theorem ofD_of_er {d e : D} (h : d.er = e.er) : ofD d = ofD e := by rw [← ofD_er d, h, ofD_er]
theorem er_ofD (d : D) : (ofD d).er = ofD d := by
  induction d using D.ind with
  | h d ih =>
    cases d with
    | mk k n t A c l =>
      have key : ∀ (a : List D), (∀ x ∈ a, x ∈ l) → S.erL (ofL a) = ofL a := by
        intro a
        induction a with
        | nil => intro _; rfl
        | cons x r ih2 => intro hs; simp only [S.erL, ofL, ih x (hs x (by simp)), ih2 fun y hy => hs y (by simp [hy])]
      simp only [S.er, ofD, key l (fun _ h => h)]
theorem size_ofD (d : D) : (ofD d).size = d.size := by
  induction d using D.ind with
  | h d ih =>
    cases d with
    | mk k n t A c l =>
      have key : ∀ (a : List D), (∀ x ∈ a, x ∈ l) → S.sizeL (ofL a) = D.sizeL a := by
        intro a
        induction a with
        | nil => intro _; rfl
        | cons x r ih2 => intro hs; simp only [S.sizeL, D.sizeL, ofL, ih x (hs x (by simp)), ih2 fun y hy => hs y (by simp [hy])]
      simp only [S.size, D.size, ofD, key l (fun _ h => h)]
theorem bulk_ofD (d : D) : (ofD d).bulk = d.bulk := by
  induction d using D.ind with
  | h d ih =>
    cases d with
    | mk k n t A c l =>
      have key : ∀ (a : List D), (∀ x ∈ a, x ∈ l) → S.bulkL (ofL a) = D.bulkL a := by
        intro a
        induction a with
        | nil => intro _; rfl
        | cons x r ih2 => intro hs; simp only [S.bulkL, D.bulkL, ofL, ih x (hs x (by simp)), ih2 fun y hy => hs y (by simp [hy])]
      simp only [S.bulk, D.bulk, ofD, key l (fun _ h => h), List.length_nil]
      omega

end Go.Proofs.Ytndckeodpoommaa
