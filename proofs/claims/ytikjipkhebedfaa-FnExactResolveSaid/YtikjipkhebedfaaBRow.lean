/-
  Lists of bindings that may grow.
-/
import Derived.Test.YtikjipkhebedfaaBindL
import Derived.Test.YtikjipkhebedfaaGrew
namespace Go.Proofs.Ytikjipkhebedfaa
open Go.RowKit

/-- Returned: a list of bindings of the call's own, a row that may grow. -/
def RetBR (x : List Bd) (w : World) (e : Ending) (w' : World) : Prop := ∃ (A : Option Addr) (c : Nat) (l : List Bd), e = .returned (.slice A l.length c) ∧ Bd.erL l = x ∧ w'.ownsRow w.heap.size 43 4 (.slice A l.length c) l.length (Bd.E.cellsL l) ∧ Bd.E.OwnL w.heap.size w'.heap.size w' l ∧ (∀ g, (Value.slice A l.length c).ownBlock = some g → g ∉ Bd.E.blksL l) ∧ Below w.heap.size w w'
theorem bl_of_row {w : World} {base : Nat} {A : Option Addr} {c : Nat} {l : List Bd} (h : w.ownsRow base 43 4 (.slice A l.length c) l.length (Bd.E.cellsL l)) (ho : Bd.E.OwnL base w.heap.size w l) (hap : ∀ g, (Value.slice A l.length c).ownBlock = some g → g ∉ Bd.E.blksL l) : Bd.E.LOwn base w.heap.size w A c l := by
  obtain ⟨A', c', e, hL⟩ := Elem.LOwn.of_owns h ho hap
  injection e with ea _ ec
  subst ea ec
  exact hL
theorem RetBR.toBL {x : List Bd} {w w' : World} {e : Ending} (h : RetBR x w e w') : RetBL x w e w' := by
  obtain ⟨A, c, l, he, hx, hr, ho, hap, hb⟩ := h
  exact ⟨A, c, l, he, hx, bl_of_row hr ho hap, hb⟩
theorem fill_row {w : World} {g n : Nat} {l : List Bd} (h : Bd.E.Fill w g 43 n l) (hn : l.length = n) (hn2 : n ≤ 9223372036854775807) :
    w.ownsRow g 43 4 (.slice (some ⟨g, 0, none⟩) l.length n) l.length (Bd.E.cellsL l) ∧ Bd.E.OwnL g w.heap.size w l ∧ (∀ q, (Value.slice (some ⟨g, 0, none⟩) l.length n).ownBlock = some q → q ∉ Bd.E.blksL l) := by
  refine ⟨?_, h.own.wide (by omega) (Nat.le_refl _), fun q hq hm => ?_⟩
  · have := h.owns hn hn2
    rw [hn] at this ⊢
    exact this
  · have e : g = q := Option.some.inj hq
    have := h.own.lo_ _ hm
    omega
end Go.Proofs.Ytikjipkhebedfaa
