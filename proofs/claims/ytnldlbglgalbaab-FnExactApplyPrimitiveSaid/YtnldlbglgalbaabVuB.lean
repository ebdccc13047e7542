/-
  Value: what it is and where it lies (written by gen/rec.py).
-/
import Derived.Test.YtnldlbglgalbaabRecB
namespace Go.Proofs.Ytnldlbglgalbaab
open Go.RowKit

structure Vu where
  k : Int
  n : Int
  t : ByteArray
namespace Vu
def cells (x : Vu) : List Value := [.int .i64 x.k, .int .i64 x.n, .string x.t]
structure In (w : World) (B : Nat) (x : Vu) : Prop where
  t : x.t.size ≤ 9223372036854775807
def blks (x : Vu) : List Nat := []
def E : Elem Vu where
  cells := cells
  n := 3
  pos := by decide
  len := fun _ => rfl
  one := by
    intro b u hu
    simp only [cells, List.mem_cons, List.not_mem_nil, or_false] at hu
    rcases hu with rfl | rfl | rfl <;> rfl
  In := In
  blks := blks
  lt := fun h b hb => by cases hb
  keepB := fun h hk => ⟨h.t⟩
  more := fun h hB => ⟨h.t⟩
theorem E_n : E.n = 3 := rfl
theorem E_in {w : World} {B : Nat} {d : Vu} (h : E.In w B d) : In w B d := h
theorem E_mk {w : World} {B : Nat} {d : Vu} (h : In w B d) : E.In w B d := h
abbrev Er := (Int) × (Int) × (ByteArray)
def er (x : Vu) : Er := (x.k, x.n, x.t)
def bulk (x : Vu) : Nat := x.t.size
def val (d : Vu) : Value := .agg #[.int .i64 d.k, .int .i64 d.n, .string d.t]
theorem er_parts {x y : Vu} (h : er x = er y) : x.k = y.k ∧ x.n = y.n ∧ x.t = y.t := by
  unfold er at h
  obtain ⟨a0, h⟩ := Prod.mk.inj h
  obtain ⟨a1, h⟩ := Prod.mk.inj h
  exact ⟨a0, a1, h⟩
theorem bulk_of_er {x y : Vu} (h : er x = er y) : bulk x = bulk y := by
  obtain ⟨e_k, e_n, e_t⟩ := er_parts h
  unfold bulk
  rw [e_t]
theorem own_of {lo hi : Nat} {w : World} {x : Vu} (h : In w hi x) : E.Own lo hi w x := by
  refine ⟨h, ?_, ?_, ?_⟩ <;> simp [E, blks]
/-- The cells of element i. -/
theorem at_ {w : World} {B : Nat} {A : Option Addr} {c : Nat} {l : List Vu} (h : E.LIn w B A c l) {i : Nat} {x : Vu} (hi : l[i]? = some x) :
    ∃ b o : Nat, A = some ⟨b, o, none⟩ ∧ b < B ∧ w.cell? ⟨b, o + i * 3, none⟩ = some (.int .i64 x.k) ∧ w.cell? ⟨b, o + i * 3 + 1, none⟩ = some (.int .i64 x.n) ∧ w.cell? ⟨b, o + i * 3 + 2, none⟩ = some (.string x.t) ∧ E.In w B x := by
  obtain ⟨b, o, e, hb, hc, hx⟩ := h.at_ hi
  exact ⟨b, o, e, hb, hc 0 _ rfl, hc 1 _ rfl, hc 2 _ rfl, hx⟩
/-- A variable that holds one. -/
structure Box (w : World) (g : Nat) (d : Vu) : Prop where
  c0 : w.cell? ⟨g, 0, none⟩ = some (.int .i64 d.k)
  c1 : w.cell? ⟨g, 1, none⟩ = some (.int .i64 d.n)
  c2 : w.cell? ⟨g, 2, none⟩ = some (.string d.t)
theorem Box.keep {w w' : World} {g : Nat} {d : Vu} (h : Box w g d) (e : w'.heap[g]? = w.heap[g]?) : Box w' g d := by
  have e : ∀ q, w'.cell? ⟨g, q, none⟩ = w.cell? ⟨g, q, none⟩ := fun q => World.cell?_of_block (a := ⟨g, q, none⟩) e
  exact ⟨(e 0).trans h.c0, (e 1).trans h.c1, (e 2).trans h.c2⟩
theorem Box.below {w w' : World} {g B : Nat} {d : Vu} (h : Box w g d) (hb : Below B w w') (hB : g < B) : Box w' g d := h.keep (hb.block g hB)
theorem Box.chg {w w' : World} {g : Nat} {d : Vu} {T : List Nat} (h : Box w g d) (hb : Chg T w w') (hlt : g < w.heap.size) (hn : g ∉ T) : Box w' g d := h.keep (hb.block g hlt hn)
theorem Box.new (w : World) (d : Vu) (t : TypeId) : Box (w.alloc (.cells #[.int .i64 d.k, .int .i64 d.n, .string d.t] t)) w.heap.size d := by
  have h := D.Blk.new w t #[.int .i64 d.k, .int .i64 d.n, .string d.t]
  exact ⟨h.cell 0, h.cell 1, h.cell 2⟩
end Vu

/-- Returned: one of the call's own. -/
def RetVu (x : Vu.Er) (w : World) (e : Ending) (w' : World) : Prop := ∃ d : Vu, e = .returned (Vu.val d) ∧ Vu.er d = x ∧ Vu.E.Own w.heap.size w'.heap.size w' d ∧ Below w.heap.size w w'
/-- Returned: a list of the call's own. -/
def RetVuL (x : List Vu.Er) (w : World) (e : Ending) (w' : World) : Prop := ∃ (A : Option Addr) (c : Nat) (l : List Vu), e = .returned (.slice A l.length c) ∧ l.map Vu.er = x ∧ Vu.E.LOwn w.heap.size w'.heap.size w' A c l ∧ Below w.heap.size w w'
end Go.Proofs.Ytnldlbglgalbaab
