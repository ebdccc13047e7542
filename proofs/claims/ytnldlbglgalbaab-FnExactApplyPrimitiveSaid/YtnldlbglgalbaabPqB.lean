/-
  Pair: what it is and where it lies (written by gen/rec.py).
-/
import Derived.Test.YtnldlbglgalbaabRecB
import Derived.Test.YtnldlbglgalbaabVuB
namespace Go.Proofs.Ytnldlbglgalbaab
open Go.RowKit

structure Pq where
  h : Vu
  u : Vu
namespace Pq
def cells (x : Pq) : List Value := [.int .i64 x.h.k, .int .i64 x.h.n, .string x.h.t, .int .i64 x.u.k, .int .i64 x.u.n, .string x.u.t]
structure In (w : World) (B : Nat) (x : Pq) : Prop where
  h : Vu.E.In w B x.h
  u : Vu.E.In w B x.u
def blks (x : Pq) : List Nat := Vu.E.blks x.h ++ (Vu.E.blks x.u)
def E : Elem Pq where
  cells := cells
  n := 6
  pos := by decide
  len := fun _ => rfl
  one := by
    intro b u hu
    simp only [cells, List.mem_cons, List.not_mem_nil, or_false] at hu
    rcases hu with rfl | rfl | rfl | rfl | rfl | rfl <;> rfl
  In := In
  blks := blks
  lt := fun h b hb => (List.mem_append.1 hb).elim (fun hb => Elem.In.blk_lt h.h b hb) (fun hb => Elem.In.blk_lt h.u b hb)
  keepB := fun h hk => ⟨Elem.In.keepB h.h fun k hm => hk k (List.mem_append.2 (.inl hm)), Elem.In.keepB h.u fun k hm => hk k (List.mem_append.2 (.inr hm))⟩
  more := fun h hB => ⟨Elem.In.more h.h hB, Elem.In.more h.u hB⟩
theorem E_n : E.n = 6 := rfl
theorem E_in {w : World} {B : Nat} {d : Pq} (h : E.In w B d) : In w B d := h
theorem E_mk {w : World} {B : Nat} {d : Pq} (h : In w B d) : E.In w B d := h
abbrev Er := (Vu.Er) × (Vu.Er)
def er (x : Pq) : Er := (x.h.er, x.u.er)
def bulk (x : Pq) : Nat := x.h.bulk + x.u.bulk
def val (d : Pq) : Value := .agg #[.int .i64 d.h.k, .int .i64 d.h.n, .string d.h.t, .int .i64 d.u.k, .int .i64 d.u.n, .string d.u.t]
theorem er_parts {x y : Pq} (h : er x = er y) : x.h.er = y.h.er ∧ x.u.er = y.u.er := by
  unfold er at h
  obtain ⟨a0, h⟩ := Prod.mk.inj h
  exact ⟨a0, h⟩
theorem bulk_of_er {x y : Pq} (h : er x = er y) : bulk x = bulk y := by
  obtain ⟨e_h, e_u⟩ := er_parts h
  unfold bulk
  rw [Vu.bulk_of_er e_h, Vu.bulk_of_er e_u]
theorem own_of {l0 l1 l2 : Nat} {w : World} {x : Pq} (h_h : Vu.E.Own l0 l1 w x.h) (h_u : Vu.E.Own l1 l2 w x.u) (h0 : l0 ≤ l1) (h1 : l1 ≤ l2)  : E.Own l0 l2 w x := by
  refine ⟨⟨(Elem.In.more h_h.inn (show l1 ≤ l2 by omega)), h_u.inn⟩, fun k hk => ?_, ?_, fun k hk o => ?_⟩
  · rcases List.mem_append.1 hk with hk | hk
    · have := h_h.lo_ k hk; omega
    have := h_u.lo_ k hk; omega
  · exact (List.nodup_append.2 ⟨h_h.nd, h_u.nd, fun p hp q hq e => by
      have := Elem.In.blk_lt h_h.inn p hp
      have := h_u.lo_ q hq; omega⟩)
  · rcases List.mem_append.1 hk with hk | hk
    · exact h_h.fr k hk o
    exact h_u.fr k hk o
/-- The cells of element i. -/
theorem at_ {w : World} {B : Nat} {A : Option Addr} {c : Nat} {l : List Pq} (h : E.LIn w B A c l) {i : Nat} {x : Pq} (hi : l[i]? = some x) :
    ∃ b o : Nat, A = some ⟨b, o, none⟩ ∧ b < B ∧ w.cell? ⟨b, o + i * 6, none⟩ = some (.int .i64 x.h.k) ∧ w.cell? ⟨b, o + i * 6 + 1, none⟩ = some (.int .i64 x.h.n) ∧ w.cell? ⟨b, o + i * 6 + 2, none⟩ = some (.string x.h.t) ∧ w.cell? ⟨b, o + i * 6 + 3, none⟩ = some (.int .i64 x.u.k) ∧ w.cell? ⟨b, o + i * 6 + 4, none⟩ = some (.int .i64 x.u.n) ∧ w.cell? ⟨b, o + i * 6 + 5, none⟩ = some (.string x.u.t) ∧ E.In w B x := by
  obtain ⟨b, o, e, hb, hc, hx⟩ := h.at_ hi
  exact ⟨b, o, e, hb, hc 0 _ rfl, hc 1 _ rfl, hc 2 _ rfl, hc 3 _ rfl, hc 4 _ rfl, hc 5 _ rfl, hx⟩
/-- A variable that holds one. -/
structure Box (w : World) (g : Nat) (d : Pq) : Prop where
  c0 : w.cell? ⟨g, 0, none⟩ = some (.int .i64 d.h.k)
  c1 : w.cell? ⟨g, 1, none⟩ = some (.int .i64 d.h.n)
  c2 : w.cell? ⟨g, 2, none⟩ = some (.string d.h.t)
  c3 : w.cell? ⟨g, 3, none⟩ = some (.int .i64 d.u.k)
  c4 : w.cell? ⟨g, 4, none⟩ = some (.int .i64 d.u.n)
  c5 : w.cell? ⟨g, 5, none⟩ = some (.string d.u.t)
theorem Box.keep {w w' : World} {g : Nat} {d : Pq} (h : Box w g d) (e : w'.heap[g]? = w.heap[g]?) : Box w' g d := by
  have e : ∀ q, w'.cell? ⟨g, q, none⟩ = w.cell? ⟨g, q, none⟩ := fun q => World.cell?_of_block (a := ⟨g, q, none⟩) e
  exact ⟨(e 0).trans h.c0, (e 1).trans h.c1, (e 2).trans h.c2, (e 3).trans h.c3, (e 4).trans h.c4, (e 5).trans h.c5⟩
theorem Box.below {w w' : World} {g B : Nat} {d : Pq} (h : Box w g d) (hb : Below B w w') (hB : g < B) : Box w' g d := h.keep (hb.block g hB)
theorem Box.chg {w w' : World} {g : Nat} {d : Pq} {T : List Nat} (h : Box w g d) (hb : Chg T w w') (hlt : g < w.heap.size) (hn : g ∉ T) : Box w' g d := h.keep (hb.block g hlt hn)
theorem Box.new (w : World) (d : Pq) (t : TypeId) : Box (w.alloc (.cells #[.int .i64 d.h.k, .int .i64 d.h.n, .string d.h.t, .int .i64 d.u.k, .int .i64 d.u.n, .string d.u.t] t)) w.heap.size d := by
  have h := D.Blk.new w t #[.int .i64 d.h.k, .int .i64 d.h.n, .string d.h.t, .int .i64 d.u.k, .int .i64 d.u.n, .string d.u.t]
  exact ⟨h.cell 0, h.cell 1, h.cell 2, h.cell 3, h.cell 4, h.cell 5⟩
end Pq

/-- Returned: one of the call's own. -/
def RetPq (x : Pq.Er) (w : World) (e : Ending) (w' : World) : Prop := ∃ d : Pq, e = .returned (Pq.val d) ∧ Pq.er d = x ∧ Pq.E.Own w.heap.size w'.heap.size w' d ∧ Below w.heap.size w w'
/-- Returned: a list of the call's own. -/
def RetPqL (x : List Pq.Er) (w : World) (e : Ending) (w' : World) : Prop := ∃ (A : Option Addr) (c : Nat) (l : List Pq), e = .returned (.slice A l.length c) ∧ l.map Pq.er = x ∧ Pq.E.LOwn w.heap.size w'.heap.size w' A c l ∧ Below w.heap.size w w'
end Go.Proofs.Ytnldlbglgalbaab
