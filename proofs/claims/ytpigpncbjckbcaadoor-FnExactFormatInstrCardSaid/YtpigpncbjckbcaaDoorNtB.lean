/-
  Instr: what it is and where it lies (written by gen/rec.py).
-/
import Derived.Test.YtpigpncbjckbcaaDoorRecB
import Derived.Test.YtpigpncbjckbcaaDoorKoBase
import Derived.Test.YtpigpncbjckbcaaDoorTrees
namespace Go.Proofs.YtpigpncbjckbcaaDoor
open Go.RowKit

structure Nt where
  o : Int
  i : Int
  t : D
namespace Nt
def cells (x : Nt) : List Value := [.int .i64 x.o, .int .i64 x.i, .int .i64 x.t.k, .int .i64 x.t.n, .string x.t.t, .slice x.t.A x.t.l.length x.t.c]
structure In (w : World) (B : Nat) (x : Nt) : Prop where
  t : x.t.In w B
def blks (x : Nt) : List Nat := D.blks x.t
def E : Elem Nt where
  cells := cells
  n := 6
  pos := by decide
  len := fun _ => rfl
  one := by
    intro b u hu
    simp only [cells, List.mem_cons, List.not_mem_nil, or_false] at hu
    rcases hu with rfl | rfl | rfl | rfl | rfl | rfl <;> rfl
  In := In
  blks := blks
  lt := fun h b hb => h.t.blk_lt b hb
  keepB := fun h hk => ⟨h.t.keepH fun k hm => hk k hm⟩
  more := fun h hB => ⟨h.t.more hB⟩
theorem E_n : E.n = 6 := rfl
theorem E_in {w : World} {B : Nat} {d : Nt} (h : E.In w B d) : In w B d := h
theorem E_mk {w : World} {B : Nat} {d : Nt} (h : In w B d) : E.In w B d := h
abbrev Er := (Int) × (Int) × (D)
def er (x : Nt) : Er := (x.o, x.i, x.t.er)
def bulk (x : Nt) : Nat := x.t.bulk
def val (d : Nt) : Value := .agg #[.int .i64 d.o, .int .i64 d.i, .int .i64 d.t.k, .int .i64 d.t.n, .string d.t.t, .slice d.t.A d.t.l.length d.t.c]
theorem er_parts {x y : Nt} (h : er x = er y) : x.o = y.o ∧ x.i = y.i ∧ x.t.er = y.t.er := by
  unfold er at h
  obtain ⟨a0, h⟩ := Prod.mk.inj h
  obtain ⟨a1, h⟩ := Prod.mk.inj h
  exact ⟨a0, a1, h⟩
theorem bulk_of_er {x y : Nt} (h : er x = er y) : bulk x = bulk y := by
  obtain ⟨e_o, e_i, e_t⟩ := er_parts h
  unfold bulk
  rw [D.bulk_of_er e_t]
theorem own_of {l0 l1 : Nat} {w : World} {x : Nt} (h_t : x.t.Own l0 l1 w) (h0 : l0 ≤ l1)  : E.Own l0 l1 w x := by
  refine ⟨⟨h_t.inn⟩, fun k hk => ?_, ?_, fun k hk o => ?_⟩
  · have := h_t.lo_ k hk; omega
  · exact h_t.nd
  · exact h_t.fr k hk o
/-- The cells of element i. -/
theorem at_ {w : World} {B : Nat} {A : Option Addr} {c : Nat} {l : List Nt} (h : E.LIn w B A c l) {i : Nat} {x : Nt} (hi : l[i]? = some x) :
    ∃ b o : Nat, A = some ⟨b, o, none⟩ ∧ b < B ∧ w.cell? ⟨b, o + i * 6, none⟩ = some (.int .i64 x.o) ∧ w.cell? ⟨b, o + i * 6 + 1, none⟩ = some (.int .i64 x.i) ∧ w.cell? ⟨b, o + i * 6 + 2, none⟩ = some (.int .i64 x.t.k) ∧ w.cell? ⟨b, o + i * 6 + 3, none⟩ = some (.int .i64 x.t.n) ∧ w.cell? ⟨b, o + i * 6 + 4, none⟩ = some (.string x.t.t) ∧ w.cell? ⟨b, o + i * 6 + 5, none⟩ = some (.slice x.t.A x.t.l.length x.t.c) ∧ E.In w B x := by
  obtain ⟨b, o, e, hb, hc, hx⟩ := h.at_ hi
  exact ⟨b, o, e, hb, hc 0 _ rfl, hc 1 _ rfl, hc 2 _ rfl, hc 3 _ rfl, hc 4 _ rfl, hc 5 _ rfl, hx⟩
/-- A variable that holds one. -/
structure Box (w : World) (g : Nat) (d : Nt) : Prop where
  c0 : w.cell? ⟨g, 0, none⟩ = some (.int .i64 d.o)
  c1 : w.cell? ⟨g, 1, none⟩ = some (.int .i64 d.i)
  c2 : w.cell? ⟨g, 2, none⟩ = some (.int .i64 d.t.k)
  c3 : w.cell? ⟨g, 3, none⟩ = some (.int .i64 d.t.n)
  c4 : w.cell? ⟨g, 4, none⟩ = some (.string d.t.t)
  c5 : w.cell? ⟨g, 5, none⟩ = some (.slice d.t.A d.t.l.length d.t.c)
theorem Box.keep {w w' : World} {g : Nat} {d : Nt} (h : Box w g d) (e : w'.heap[g]? = w.heap[g]?) : Box w' g d := by
  have e : ∀ q, w'.cell? ⟨g, q, none⟩ = w.cell? ⟨g, q, none⟩ := fun q => World.cell?_of_block (a := ⟨g, q, none⟩) e
  exact ⟨(e 0).trans h.c0, (e 1).trans h.c1, (e 2).trans h.c2, (e 3).trans h.c3, (e 4).trans h.c4, (e 5).trans h.c5⟩
theorem Box.below {w w' : World} {g B : Nat} {d : Nt} (h : Box w g d) (hb : Below B w w') (hB : g < B) : Box w' g d := h.keep (hb.block g hB)
theorem Box.chg {w w' : World} {g : Nat} {d : Nt} {T : List Nat} (h : Box w g d) (hb : Chg T w w') (hlt : g < w.heap.size) (hn : g ∉ T) : Box w' g d := h.keep (hb.block g hlt hn)
theorem Box.new (w : World) (d : Nt) (t : TypeId) : Box (w.alloc (.cells #[.int .i64 d.o, .int .i64 d.i, .int .i64 d.t.k, .int .i64 d.t.n, .string d.t.t, .slice d.t.A d.t.l.length d.t.c] t)) w.heap.size d := by
  have h := D.Blk.new w t #[.int .i64 d.o, .int .i64 d.i, .int .i64 d.t.k, .int .i64 d.t.n, .string d.t.t, .slice d.t.A d.t.l.length d.t.c]
  exact ⟨h.cell 0, h.cell 1, h.cell 2, h.cell 3, h.cell 4, h.cell 5⟩
end Nt

/-- Returned: one of the call's own. -/
def RetNt (x : Nt.Er) (w : World) (e : Ending) (w' : World) : Prop := ∃ d : Nt, e = .returned (Nt.val d) ∧ Nt.er d = x ∧ Nt.E.Own w.heap.size w'.heap.size w' d ∧ Below w.heap.size w w'
/-- Returned: a list of the call's own. -/
def RetNtL (x : List Nt.Er) (w : World) (e : Ending) (w' : World) : Prop := ∃ (A : Option Addr) (c : Nat) (l : List Nt), e = .returned (.slice A l.length c) ∧ l.map Nt.er = x ∧ Nt.E.LOwn w.heap.size w'.heap.size w' A c l ∧ Below w.heap.size w w'
end Go.Proofs.YtpigpncbjckbcaaDoor
