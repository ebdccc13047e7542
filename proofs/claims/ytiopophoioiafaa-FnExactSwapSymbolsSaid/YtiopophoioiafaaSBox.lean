/-
  A variable that holds a syntax object.
-/
import Derived.Test.YtiopophoioiafaaSOwn
import Derived.Test.YtiopophoioiafaaChg
namespace Go.Proofs.Ytiopophoioiafaa
open Go.RowKit
namespace S
structure Box (w : World) (b : Nat) (d : S) : Prop where
  c0 : w.cell? ⟨b, 0, none⟩ = some (.int .i64 d.k)
  c1 : w.cell? ⟨b, 1, none⟩ = some (.int .i64 d.n)
  c2 : w.cell? ⟨b, 2, none⟩ = some (.string d.t)
  c3 : w.cell? ⟨b, 3, none⟩ = some (.slice d.sa d.s.length d.sc)
  c4 : w.cell? ⟨b, 4, none⟩ = some (.slice d.A d.l.length d.c)
theorem Box.keep {w w' : World} {b : Nat} {d : S} (h : Box w b d) (e : w'.heap[b]? = w.heap[b]?) : Box w' b d := by
  have e : ∀ q, w'.cell? ⟨b, q, none⟩ = w.cell? ⟨b, q, none⟩ := fun q => World.cell?_of_block (a := ⟨b, q, none⟩) e
  exact ⟨(e 0).trans h.c0, (e 1).trans h.c1, (e 2).trans h.c2, (e 3).trans h.c3, (e 4).trans h.c4⟩
theorem Box.below {w w' : World} {b B : Nat} {d : S} (h : Box w b d) (hb : Below B w w') (hB : b < B) : Box w' b d := h.keep (hb.block b hB)
theorem Box.chg {w w' : World} {b : Nat} {d : S} {T : List Nat} (h : Box w b d) (hb : Chg T w w') (hlt : b < w.heap.size) (hn : b ∉ T) : Box w' b d := h.keep (hb.block b hlt hn)
theorem Box.new (w : World) (d : S) (t : TypeId) : Box (w.alloc (.cells #[.int .i64 d.k, .int .i64 d.n, .string d.t, .slice d.sa d.s.length d.sc, .slice d.A d.l.length d.c] t)) w.heap.size d :=
  ⟨by rw [cell_of_row _ _ _ _ _ _ (heap_alloc_new w _)]; rfl, by rw [cell_of_row _ _ _ _ _ _ (heap_alloc_new w _)]; rfl, by rw [cell_of_row _ _ _ _ _ _ (heap_alloc_new w _)]; rfl, by rw [cell_of_row _ _ _ _ _ _ (heap_alloc_new w _)]; rfl, by rw [cell_of_row _ _ _ _ _ _ (heap_alloc_new w _)]; rfl⟩
end S
/-- Not frozen. -/
structure Free (w : World) (b : Nat) : Prop where
  fr : ∀ q, w.frozen? ⟨b, q, none⟩ = false
theorem Free.keep {w w' : World} {b : Nat} (h : Free w b) (e : w'.heap[b]? = w.heap[b]?) : Free w' b := ⟨fun q => (World.frozen?_of_block (a := ⟨b, q, none⟩) e).trans (h.fr q)⟩
theorem Free.below {w w' : World} {b B : Nat} (h : Free w b) (hb : Below B w w') (hB : b < B) : Free w' b := h.keep (hb.block b hB)
theorem Free.set_ {w : World} {b : Nat} (h : Free w b) (p : Addr) (u : Value) : Free (w.setCell p u) b := ⟨fun q => by rw [World.frozen?_setCell]; exact h.fr q⟩
theorem Free.new (w : World) (cs : Array Value) (t : TypeId) : Free (w.alloc (.cells cs t)) w.heap.size := ⟨fun q => (D.Blk.new w t cs).frozen q⟩
end Go.Proofs.Ytiopophoioiafaa
