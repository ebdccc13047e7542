/-
  Rows of records: sizes of what is in them, what reads the same. Nothing of the program.
-/
import Derived.Test.YtpigpncbjckbcaaTr
namespace Go.Proofs.Ytpigpncbjckbcaa
open Go.RowKit

namespace Row
variable {α β : Type}
/-- How much is in a row, f of each. -/
def bulk (f : α → Nat) : List α → Nat | [] => 0 | d :: r => 1 + f d + bulk f r
theorem bulk_append (f : α → Nat) (a b : List α) : bulk f (a ++ b) = bulk f a + bulk f b := by
  induction a with
  | nil => simp [bulk]
  | cons d r ih => simp [bulk, ih]; omega
theorem bulk_len (f : α → Nat) (l : List α) : l.length ≤ bulk f l := by
  induction l with
  | nil => simp
  | cons d r ih => simp [bulk]; omega
theorem bulk_mem {f : α → Nat} {l : List α} {d : α} (h : d ∈ l) : f d + l.length ≤ bulk f l := by
  induction l with
  | nil => cases h
  | cons e r ih =>
    simp only [bulk, List.length_cons]
    rcases List.mem_cons.1 h with rfl | h
    · have := bulk_len f r; omega
    · have := ih h; omega
theorem bulk_take_le (f : α → Nat) (l : List α) (j : Nat) : bulk f (l.take j) + (l.length - j) ≤ bulk f l := by
  have h := bulk_append f (l.take j) (l.drop j)
  rw [List.take_append_drop] at h
  have := bulk_len f (l.drop j)
  rw [List.length_drop] at this
  omega
theorem bulk_take_succ (f : α → Nat) (l : List α) (j : Nat) (h : j < l.length) : bulk f (l.take (j + 1)) = bulk f (l.take j) + 1 + f l[j] := by
  rw [List.take_succ_eq_append_getElem h, bulk_append]; simp [bulk]; omega
theorem bulk_of_er {f : α → Nat} {g : α → β} (hf : ∀ a b, g a = g b → f a = f b) : ∀ l m : List α, l.map g = m.map g → bulk f l = bulk f m
  | [], [], _ => rfl
  | [], _ :: _, h => by simp at h
  | _ :: _, [], h => by simp at h
  | d :: r, e :: s, h => by
    simp only [List.map_cons, List.cons.injEq] at h
    simp only [bulk]
    rw [hf d e h.1, bulk_of_er hf r s h.2]
theorem er_get {g : α → β} {a b : List α} (h : a.map g = b.map g) {j : Nat} (ha : j < a.length) (hb : j < b.length) : g a[j] = g b[j] := by
  have h1 : (a.map g)[j]? = (b.map g)[j]? := by rw [h]
  simp only [List.getElem?_map, List.getElem?_eq_getElem ha, List.getElem?_eq_getElem hb, Option.map_some, Option.some.injEq] at h1
  exact h1
end Row
theorem rec_far {w : World} {g : Nat} {T : TypeId} {cs : Array Value} (h : D.Blk w g T cs) {p : Addr} (hp : g ≠ p.block) (u : Value) : D.Blk (w.setCell p u) g T cs := (Below.heap_setCell _ _ _ _ hp).trans h
end Go.Proofs.Ytpigpncbjckbcaa
