/-
  A tree walked in order, with a state.
-/
import Derived.Test.YtpigpncbjckbcaaGreatKoBase
namespace Go.Proofs.YtpigpncbjckbcaaGreat
open Go.RowKit
namespace Tr
variable {α β γ : Type}
mutual
def walk (f : α → β → β) : Tr α → β → β | .mk a _ _ l, s => walkL f l (f a s)
def walkL (f : α → β → β) : List (Tr α) → β → β | [], s => s | d :: r, s => walkL f r (walk f d s)
end
theorem walk_eq (f : α → β → β) (d : Tr α) (s : β) : walk f d s = walkL f d.l (f d.a s) := by cases d; rfl
theorem walkL_append (f : α → β → β) (a b : List (Tr α)) : ∀ s, walkL f (a ++ b) s = walkL f b (walkL f a s) := by
  induction a with
  | nil => intro s; rfl
  | cons d r ih => intro s; simp only [List.cons_append, walkL, ih]
theorem walkL_take_succ (f : α → β → β) (l : List (Tr α)) (j : Nat) (h : j < l.length) (s : β) : walkL f (l.take (j + 1)) s = walk f l[j] (walkL f (l.take j) s) := by
  rw [List.take_succ_eq_append_getElem h, walkL_append]; rfl
mutual
theorem walk_of_er {f : α → β → β} {g : α → γ} (hf : ∀ a b, g a = g b → f a = f b) : ∀ d e : Tr α, er g d = er g e → ∀ s, walk f d s = walk f e s
  | .mk a _ _ l, .mk b _ _ m => fun h s => by
    simp only [er, Tr.mk.injEq] at h
    simp only [walk, hf a b h.1, walkL_of_er hf l m h.2.2.2]
theorem walkL_of_er {f : α → β → β} {g : α → γ} (hf : ∀ a b, g a = g b → f a = f b) : ∀ l m : List (Tr α), erL g l = erL g m → ∀ s, walkL f l s = walkL f m s
  | [], [] => fun _ _ => rfl
  | [], _ :: _ => fun h _ => by simp [erL] at h
  | _ :: _, [] => fun h _ => by simp [erL] at h
  | d :: r, e :: t => fun h s => by
    simp only [erL, List.cons.injEq] at h
    simp only [walkL, walk_of_er hf d e h.1, walkL_of_er hf r t h.2]
end
mutual
theorem walk_len {f : α → List Int → List Int} {k : α → Nat} (hf : ∀ a s, (f a s).length ≤ s.length + k a) : ∀ (d : Tr α) (s : List Int), (walk f d s).length ≤ s.length + d.bulk k
  | .mk a _ _ l, s => by
    have h1 := hf a s
    have h2 := walkL_len hf l (f a s)
    simp only [walk, bulk]; omega
theorem walkL_len {f : α → List Int → List Int} {k : α → Nat} (hf : ∀ a s, (f a s).length ≤ s.length + k a) : ∀ (l : List (Tr α)) (s : List Int), (walkL f l s).length ≤ s.length + bulkL k l
  | [], s => by simp [walkL, bulkL]
  | d :: r, s => by
    have h1 := walk_len hf d s
    have h2 := walkL_len hf r (walk f d s)
    simp only [walkL, bulkL]; omega
end
theorem bulkL_drop (f : α → Nat) (l : List (Tr α)) (j : Nat) (h : j < l.length) : bulkL f (l.take j) + 1 + (l[j]).bulk f ≤ bulkL f l := by
  have h1 := bulkL_take_succ f l j h
  have h2 := bulkL_take_le f l (j + 1)
  omega
end Tr
def Ko.bound (a : Ko) (s : List Int) : List Int := s ++ a.s
theorem Ko.bound_er (a b : Ko) (h : Ko.er a = Ko.er b) : Ko.bound a = Ko.bound b := by
  simp only [Ko.er, Ko.mk.injEq] at h
  funext s
  unfold Ko.bound
  rw [h.2.2.2.2.1]
theorem Ko.bound_len (a : Ko) (s : List Int) : (Ko.bound a s).length ≤ s.length + Ko.bulk a := by simp [Ko.bound, Ko.bulk]
end Go.Proofs.YtpigpncbjckbcaaGreat
