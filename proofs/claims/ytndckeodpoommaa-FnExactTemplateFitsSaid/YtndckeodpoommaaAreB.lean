/-
  Valid lists of bindings: the model's l3Clash and AreBindings.
-/
import Derived.Test.YtndckeodpoommaaIsBd
import Derived.Test.YtndckeodpoommaaBindL
import Derived.Test.YtndckeodpoommaaSEqs
import Derived.Deep.RegionLaw
namespace Go.Proofs.Ytndckeodpoommaa
open Go.RowKit

namespace Bd
/-- Whether a binding with this text and these scopes is there. -/
def clash (l : List Bd) (b : Bd) : Bool := l.any fun x => x.t.toList == b.t.toList && x.s == b.s
/-- Each is valid, and clashes with none before it. -/
def goodL : List Bd → List Bd → Bool | _, [] => true | p, b :: r => isB b && (!clash p b && goodL (p ++ [b]) r)
def areB (l : List Bd) : Bool := goodL [] l && decide (l.length ≤ 1000)
theorem goodL_append (a b : List Bd) : ∀ p, goodL p (a ++ b) = (goodL p a && goodL (p ++ a) b) := by
  induction a with
  | nil => intro p; simp [goodL]
  | cons x r ih => intro p; simp only [List.cons_append, goodL, ih, List.append_assoc, Bool.and_assoc, List.nil_append]
theorem goodL_step {l : List Bd} {j : Nat} (h : j < l.length) : goodL [] (l.take (j + 1)) = (goodL [] (l.take j) && (isB l[j] && !clash (l.take j) l[j])) := by
  rw [List.take_succ_eq_append_getElem h, goodL_append]
  simp [goodL]
theorem goodL_no {l : List Bd} {j : Nat} (h : j < l.length) (hb : (isB l[j] && !clash (l.take j) l[j]) = false) : goodL [] l = false := by
  rw [← List.take_append_drop (j + 1) l, goodL_append, goodL_step h, hb]
  simp
theorem clash_er {a b : List Bd} {x y : Bd} (h : erL a = erL b) (hx : er x = er y) : clash a x = clash b y := by
  have e : ∀ l : List Bd, ∀ z : Bd, clash l z = clash (erL l) (er z) := by
    intro l z
    induction l with
    | nil => rfl
    | cons q r ih => simp only [clash, erL, List.map_cons, List.any_cons] at ih ⊢; rw [ih]; rfl
  rw [e a x, e b y, h, hx]
theorem goodL_er : ∀ (a b p q : List Bd), erL a = erL b → erL p = erL q → goodL p a = goodL q b
  | [], [], _, _, _, _ => rfl
  | [], _ :: _, _, _, h, _ => by simp [erL] at h
  | _ :: _, [], _, _, h, _ => by simp [erL] at h
  | x :: r, y :: s, p, q, h, hp => by
    have hh : er x = er y ∧ erL r = erL s := by simpa [erL] using h
    simp only [goodL, isB_of_er hh.1, clash_er hp hh.1]
    rw [goodL_er r s (p ++ [x]) (q ++ [y]) hh.2 (by rw [erL_append, erL_append, hp]; simp [erL, hh.1])]
theorem areB_er {a b : List Bd} (h : erL a = erL b) : areB a = areB b := by
  unfold areB
  rw [goodL_er a b [] [] h rfl, ← erL_length a, h, erL_length]
theorem clash_step {l : List Bd} {j : Nat} (h : j < l.length) (b : Bd) : clash (l.take (j + 1)) b = (clash (l.take j) b || (l[j].t.toList == b.t.toList && l[j].s == b.s)) := by
  unfold clash
  rw [List.take_succ_eq_append_getElem h, List.any_append]
  simp
theorem clash_yes {l : List Bd} {j : Nat} (h : j < l.length) {b : Bd} (he : (l[j].t.toList == b.t.toList && l[j].s == b.s) = true) : clash l b = true := by
  unfold clash
  rw [List.any_eq_true]
  exact ⟨l[j], List.getElem_mem h, he⟩
/-- The head of a row. -/
theorem lin_take {w : World} {B : Nat} {A : Option Addr} {c : Nat} {l : List Bd} (h : E.LIn w B A c l) {j : Nat} (hj : j ≤ l.length) : E.LIn w B A c (l.take j) := by
  refine ⟨⟨by rw [List.length_take]; have := h.cap; omega, h.cap.2⟩, h.nil, fun hne => ?_, fun x hx => h.all x (List.mem_of_mem_take hx)⟩
  obtain ⟨b, o, e, hb, hc⟩ := h.mem (by rintro rfl; simp at hne)
  refine ⟨b, o, e, hb, fun i u hu => hc i u ?_⟩
  have e2 : E.cellsL l = E.cellsL (l.take j) ++ E.cellsL (l.drop j) := by rw [← Elem.cellsL_append, List.take_append_drop]
  rw [e2, List.getElem?_append_left (List.getElem?_eq_some_iff.1 hu).1]
  exact hu
end Bd

end Go.Proofs.Ytndckeodpoommaa
