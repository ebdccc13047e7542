/-
  Lists of bindings: the laws' own functions.
-/
import Derived.Test.YtjgpekfnfmabbaaDoorBind
import Derived.Test.YtjgpekfnfmabbaaDoorTrees
import Derived.Deep.RegionHeld3
namespace Go.Proofs.YtjgpekfnfmabbaaDoor
open Go.RowKit

namespace Bd
def erL (l : List Bd) : List Bd := l.map er
def bulkL : List Bd → Nat | [] => 0 | b :: r => 1 + bulk b + bulkL r
theorem erL_append (a b : List Bd) : erL (a ++ b) = erL a ++ erL b := by simp [erL]
theorem erL_length (a : List Bd) : (erL a).length = a.length := by simp [erL]
theorem bulkL_mem {l : List Bd} {b : Bd} (h : b ∈ l) : 1 + bulk b ≤ bulkL l := by
  induction l with
  | nil => cases h
  | cons e r ih =>
    simp only [bulkL]
    rcases List.mem_cons.1 h with rfl | h
    · omega
    · have := ih h; omega
theorem bulkL_len (l : List Bd) : l.length ≤ bulkL l := by
  induction l with
  | nil => simp
  | cons e r ih => simp only [bulkL, List.length_cons]; omega
theorem bulkL_append (a b : List Bd) : bulkL (a ++ b) = bulkL a + bulkL b := by
  induction a with
  | nil => simp [bulkL]
  | cons e r ih => simp only [List.cons_append, bulkL, ih]; omega
theorem bulkL_er (l : List Bd) : bulkL (erL l) = bulkL l := by
  induction l with
  | nil => rfl
  | cons e r ih => simp only [erL, List.map_cons, bulkL] at ih ⊢; rw [ih]; rfl
theorem erL_get {a b : List Bd} (h : erL a = erL b) {j : Nat} (ha : j < a.length) (hb : j < b.length) : er a[j] = er b[j] := by
  have h1 : (erL a)[j]? = (erL b)[j]? := by rw [h]
  simp only [erL, List.getElem?_map, List.getElem?_eq_getElem ha, List.getElem?_eq_getElem hb, Option.map_some, Option.some.injEq] at h1
  exact h1
/-- The cells of element i. -/
theorem at_ {w : World} {B : Nat} {A : Option Addr} {c : Nat} {l : List Bd} (h : E.LIn w B A c l) {i : Nat} {x : Bd} (hi : l[i]? = some x) :
    ∃ b o : Nat, A = some ⟨b, o, none⟩ ∧ b < B ∧ w.cell? ⟨b, o + i * 4, none⟩ = some (.string x.t) ∧ w.cell? ⟨b, o + i * 4 + 1, none⟩ = some (.slice x.sa x.s.length x.sc) ∧ w.cell? ⟨b, o + i * 4 + 2, none⟩ = some (.int .i64 x.k) ∧ w.cell? ⟨b, o + i * 4 + 3, none⟩ = some (.int .i64 x.n) ∧ In w B x := by
  obtain ⟨b, o, e, hb, hc, hx⟩ := h.at_ hi
  exact ⟨b, o, e, hb, hc 0 _ rfl, hc 1 _ rfl, hc 2 _ rfl, hc 3 _ rfl, hx⟩
end Bd

theorem infoB : (Tryd.prog.info? 54).map (fun i => (i.zero, i.size, i.bytes)) = some (some (.agg #[.string ⟨#[]⟩, .slice none 0 0, .int .i64 0, .int .i64 0]), 4, 56) := by kernel_rfl

/-- Returned: a list of bindings of the call's own. -/
def RetBL (x : List Bd) (w : World) (e : Ending) (w' : World) : Prop := ∃ (A : Option Addr) (c : Nat) (l : List Bd), e = .returned (.slice A l.length c) ∧ Bd.erL l = x ∧ Bd.E.LOwn w.heap.size w'.heap.size w' A c l ∧ Below w.heap.size w w'

end Go.Proofs.YtjgpekfnfmabbaaDoor
