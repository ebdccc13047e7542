/-
  The scopes of the symbols changed.
-/
import Derived.Test.YtiopophoioiafaaSTrees
import Derived.Test.YtiopophoioiafaaSNode
import Derived.Test.YtiopophoioiafaaSCount
import Derived.Test.YtiopophoioiafaaTrees
import Derived.Test.YtiopophoioiafaaScTops
namespace Go.Proofs.Ytiopophoioiafaa
open Go.RowKit

namespace S
mutual
/-- The scopes of the symbols changed. -/
def mapS (f : List Int → List Int) : S → S | .mk k n t _ _ s _ _ l => .mk k n t none 0 (if k = 1 then f s else s) none 0 (mapSL f l)
def mapSL (f : List Int → List Int) : List S → List S | [] => [] | d :: r => mapS f d :: mapSL f r
end
theorem mapSL_map (f : List Int → List Int) (l : List S) : mapSL f l = l.map (mapS f) := by
  induction l with
  | nil => rfl
  | cons d r ih => simp [mapSL, ih]
theorem mapSL_append (f : List Int → List Int) (a b : List S) : mapSL f (a ++ b) = mapSL f a ++ mapSL f b := by simp [mapSL_map]
theorem mapS_er (f : List Int → List Int) (d : S) : mapS f d.er = mapS f d := by
  induction d using ind with
  | h d ih =>
    cases d with
    | mk k n t sa sc s A c l =>
      have key : ∀ (a : List S), (∀ x ∈ a, x ∈ l) → mapSL f (erL a) = mapSL f a := by
        intro a
        induction a with
        | nil => intro _; rfl
        | cons x r ih2 => intro hs; simp only [erL, mapSL, ih x (hs x (by simp)), ih2 fun y hy => hs y (by simp [hy])]
      simp only [er, mapS, key l (fun _ h => h)]
theorem mapS_of_er (f : List Int → List Int) {d e : S} (h : d.er = e.er) : mapS f d = mapS f e := by rw [← mapS_er f d, h, mapS_er]
theorem bulkL_get (l : List S) (j : Nat) (h : j < l.length) : l[j].bulk ≤ bulkL l := by
  have h1 := sbulkL_take_succ l j h
  have h2 := sbulkL_take_le l (j + 1)
  omega
end S
end Go.Proofs.Ytiopophoioiafaa
