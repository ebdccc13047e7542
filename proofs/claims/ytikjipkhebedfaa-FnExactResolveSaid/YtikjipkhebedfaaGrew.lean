/-
  Rows that grow by append.
-/
import Derived.Test.YtikjipkhebedfaaElem
import Derived.Deep.AppendLies
namespace Go.Proofs.Ytikjipkhebedfaa
open Go.RowKit

/-- A row that has grown by append, as a list. -/
theorem Elem.LOwn.of_owns {α : Type} {E : Elem α} {w : World} {base : Nat} {t : TypeId} {v : Value} {ds : List α} (h : w.ownsRow base t E.n v ds.length (E.cellsL ds)) (ho : E.OwnL base w.heap.size w ds) (hap : ∀ g, v.ownBlock = some g → g ∉ E.blksL ds) :
    ∃ A c, v = .slice A ds.length c ∧ E.LOwn base w.heap.size w A c ds := by
  rcases h.2 with ⟨rfl, h0⟩ | ⟨g, cap, cur, rfl, hb, hg, hn, hc, hs, ht⟩
  · have : ds = [] := List.length_eq_zero_iff.1 h0
    subst this
    exact ⟨none, 0, rfl, Elem.LOwn.nil_ (by omega) (by simp)⟩
  · refine ⟨some ⟨g, 0, none⟩, cap, rfl, Elem.LOwn.of_row ho ⟨hn, hc⟩ (hap g rfl) hb (Array.getElem?_eq_some_iff.1 hg).1 (fun q => by simp [World.frozen?, hg]) fun j u hu => ?_⟩
    rw [cell_of_row w g j cur _ (0, 0) hg]
    have h1 : (cur.toList.take (ds.length * E.n))[j]? = some u := by rw [ht]; exact hu
    rw [List.getElem?_take] at h1
    split at h1
    · simpa using h1
    · cases h1
/-- What has been filled, as a row that may grow. -/
theorem Elem.Fill.owns {α : Type} {E : Elem α} {w : World} {g n : Nat} {t : TypeId} {ds : List α} (h : E.Fill w g t n ds) (hn : ds.length = n) (hn2 : n ≤ 9223372036854775807) : w.ownsRow g t E.n (.slice (some ⟨g, 0, none⟩) n n) ds.length (E.cellsL ds) := by
  obtain ⟨cs, h1, h2, h3⟩ := h.row
  refine ⟨by rw [Elem.cellsL_length, Nat.mul_comm], .inr ⟨g, n, cs, by rw [hn], Nat.le_refl _, h1, by omega, hn2, by rw [h2, Nat.mul_comm], ?_⟩⟩
  have e : ds.length * E.n = (E.cellsL ds).length := by rw [Elem.cellsL_length, Nat.mul_comm]
  rw [e]
  apply List.ext_getElem?
  intro i
  rw [List.getElem?_take]
  split
  · rename_i hi
    have hx := List.getElem?_eq_getElem hi
    rw [hx]
    have := h3 i _ hx
    simpa using this
  · rename_i hi
    rw [List.getElem?_eq_none (by omega)]

/-- A row that has grown: nothing else that was there has changed. -/
def Elem.Grew {α : Type} (E : Elem α) (t : TypeId) (base : Nat) (ds : List α) (v : Value) (w : World) (v' : Value) (w' : World) : Prop :=
  w'.ownsRow base t E.n v' ds.length (E.cellsL ds) ∧ Chg v.ownBlock.toList w w' ∧ (v'.ownBlock = v.ownBlock ∨ ∀ g, v'.ownBlock = some g → w.heap.size ≤ g)
theorem Elem.Grew.refl {α : Type} {E : Elem α} {t : TypeId} {base : Nat} {ds : List α} {v : Value} {w : World} (h : w.ownsRow base t E.n v ds.length (E.cellsL ds)) : E.Grew t base ds v w v w := ⟨h, Chg.refl _ _, .inl rfl⟩
theorem Elem.Grew.trans {α : Type} {E : Elem α} {t : TypeId} {base : Nat} {ds ds2 : List α} {v v1 v2 : Value} {w w1 w2 : World} (h : E.Grew t base ds v w v1 w1) (k : E.Grew t base ds2 v1 w1 v2 w2) : E.Grew t base ds2 v w v2 w2 := by
  obtain ⟨h1, h2, h3⟩ := h
  obtain ⟨k1, k2, k3⟩ := k
  refine ⟨k1, ⟨k2.os.trans h2.os, k2.tape.trans h2.tape, k2.output.trans h2.output, Nat.le_trans h2.size k2.size, fun b hb hn => ?_⟩, ?_⟩
  · refine (k2.block b (Nat.lt_of_lt_of_le hb h2.size) fun hm => ?_).trans (h2.block b hb hn)
    rcases h3 with e | e
    · rw [e] at hm; exact hn hm
    · have := e b (by simpa using hm); omega
  · rcases k3 with e | e
    · rw [e]; exact h3
    · exact .inr fun g hg => Nat.le_trans h2.size (e g hg)
/-- One element more, appended out of a new block. -/
theorem Elem.Grew.snoc {α : Type} {E : Elem α} {t : TypeId} {base : Nat} {ds : List α} {x : α} {v v' : Value} {w w1 : World} {o : Obj}
    (hown' : w1.ownsRow base t E.n v' (ds.length + 1) (E.cellsL ds ++ E.cells x)) (hgr : (w.alloc o).grownBy w1 v.ownBlock) (hat : v'.ownBlock = v.ownBlock ∨ ∀ g, v'.ownBlock = some g → w.heap.size ≤ g) : E.Grew t base (ds ++ [x]) v w v' w1 := by
  refine ⟨by rw [List.length_append, Elem.cellsL_append, Elem.cellsL_one]; exact hown', ⟨hgr.os, hgr.tape, hgr.output, by have := hgr.size; simp at this; omega, fun b hb hn => ?_⟩, hat⟩
  rw [hgr.block b (by simp; omega) (fun e => hn (by rw [← e]; simp))]
  exact Below.heap_alloc _ _ _ hb

end Go.Proofs.Ytikjipkhebedfaa
