/-
  Lists of bindings: marks.
-/
import Derived.Test.YtndckeodpoommaaBindL
import Derived.Test.YtndckeodpoommaaMarks
import Derived.Deep.RegionHeld3
namespace Go.Proofs.Ytndckeodpoommaa
open Go.RowKit

namespace Bd
/-- The marks of an element, and of a list. -/
def markE (b : Bd) (q : Int) : Bd := ⟨markB q, b.sa, b.sc, markI b.s (q + 1), q + 1 + b.s.length, q + 1 + b.s.length + 1⟩
def wtL : List Bd → Nat | [] => 0 | b :: r => (3 + b.s.length) + wtL r
def markL : List Bd → Int → List Bd | [], _ => [] | b :: r, q => markE b q :: markL r (q + (3 + b.s.length : Nat))
theorem wtL_append (a b : List Bd) : wtL (a ++ b) = wtL a + wtL b := by
  induction a with
  | nil => simp [wtL]
  | cons e r ih => simp only [List.cons_append, wtL, ih]; omega
theorem wtL_le (l : List Bd) : wtL l ≤ 3 * bulkL l := by
  induction l with
  | nil => simp [wtL]
  | cons e r ih => simp only [wtL, bulkL, bulk]; omega
theorem wtL_er (l : List Bd) : wtL (erL l) = wtL l := by
  induction l with
  | nil => rfl
  | cons e r ih => simp only [erL, List.map_cons, wtL] at ih ⊢; rw [ih]; rfl
theorem markL_length (l : List Bd) : ∀ q, (markL l q).length = l.length := by
  induction l with
  | nil => intro q; rfl
  | cons d r ih => intro q; simp [markL, ih]
theorem markL_append (a b : List Bd) : ∀ q, markL (a ++ b) q = markL a q ++ markL b (q + (wtL a : Nat)) := by
  induction a with
  | nil => intro q; simp [markL, wtL]
  | cons d r ih =>
    intro q
    simp only [List.cons_append, markL, wtL, ih, List.cons.injEq, true_and]
    congr 2
    omega
theorem markL_get (l : List Bd) : ∀ (q : Int) (j : Nat) (h : j < (markL l q).length) (h2 : j < l.length), (markL l q)[j] = markE l[j] (q + (wtL (l.take j) : Nat)) := by
  induction l with
  | nil => intro q j h; simp [markL] at h
  | cons d r ih =>
    intro q j h h2
    cases j with
    | zero => simp [markL, wtL]
    | succ j =>
      simp only [markL, List.getElem_cons_succ, List.take_succ_cons, wtL]
      rw [ih _ _ (by simpa [markL] using h) (by simpa using h2)]
      congr 1
      omega
theorem blks_markE (b : Bd) (q : Int) : E.blks (markE b q) = E.blks b := iblk_mark _ _ _
end Bd

theorem app_ne {α : Type} {a b : List α} {x : α} : a ++ x :: b ≠ [] := by cases a <;> simp

end Go.Proofs.Ytndckeodpoommaa
