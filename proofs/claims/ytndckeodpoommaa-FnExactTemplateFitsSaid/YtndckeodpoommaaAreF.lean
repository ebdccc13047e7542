/-
  Valid lists of bindings: whether a set of scopes is among the sets of one text (the program's closure, slices.IndexFunc and slices.ContainsFunc).
-/
import Derived.Test.YtndckeodpoommaaAreB
import Derived.Test.YtndckeodpoommaaSEqi
namespace Go.Proofs.Ytndckeodpoommaa
open Go.RowKit

/-- A list of ints, where it lies. -/
structure Iv where
  a : Option Addr
  c : Nat
  s : List Int
namespace Iv
def cells (x : Iv) : List Value := [.slice x.a x.s.length x.c]
def In (w : World) (B : Nat) (x : Iv) : Prop := IIn w B x.a x.c x.s
/-- Rows of them. -/
def E : Elem Iv where
  cells := cells
  n := 1
  pos := by decide
  len := fun _ => rfl
  one := by
    intro b u hu
    simp only [cells, List.mem_cons, List.not_mem_nil, or_false] at hu
    subst hu
    rfl
  In := In
  blks := fun x => iblk x.a x.s
  lt := fun h => h.blk_lt
  keepB := fun h hk => h.keep hk
  more := fun h hB => h.more hB
/-- Whether these ints are among them. -/
def has (l : List Iv) (s : List Int) : Bool := l.any fun x => x.s == s
theorem has_step {l : List Iv} {j : Nat} (h : j < l.length) (s : List Int) : has (l.take (j + 1)) s = (has (l.take j) s || (l[j].s == s)) := by
  unfold has
  rw [List.take_succ_eq_append_getElem h, List.any_append]
  simp
theorem has_yes {l : List Iv} {j : Nat} (h : j < l.length) {s : List Int} (he : (l[j].s == s) = true) : has l s = true := by
  unfold has
  rw [List.any_eq_true]
  exact ⟨l[j], List.getElem_mem h, he⟩
/-- The cell of element i. -/
theorem at_ {w : World} {B : Nat} {A : Option Addr} {c : Nat} {l : List Iv} (h : E.LIn w B A c l) {i : Nat} {x : Iv} (hi : l[i]? = some x) :
    ∃ b o : Nat, A = some ⟨b, o, none⟩ ∧ b < B ∧ w.cell? ⟨b, o + i, none⟩ = some (.slice x.a x.s.length x.c) ∧ In w B x := by
  obtain ⟨b, o, e, hb, hc, hx⟩ := h.at_ hi
  have h0 := hc 0 _ rfl
  refine ⟨b, o, e, hb, ?_, hx⟩
  simpa [E] using h0
end Iv

end Go.Proofs.Ytndckeodpoommaa
