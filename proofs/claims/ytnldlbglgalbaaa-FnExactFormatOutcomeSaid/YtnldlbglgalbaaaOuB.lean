/-
  Outcome: what it is and where it lies (written by gen/rec.py).
-/
import Derived.Test.YtnldlbglgalbaaaRecB
import Derived.Test.YtnldlbglgalbaaaSgB
namespace Go.Proofs.Ytnldlbglgalbaaa
open Go.RowKit

structure Ou where
  s : Int
  t : ByteArray
  oA : Option Addr
  oC : Nat
  o : List Sg
  i : Int
  m : Int
namespace Ou
def cells (x : Ou) : List Value := [.int .i64 x.s, .string x.t, .slice x.oA x.o.length x.oC, .int .i64 x.i, .int .i64 x.m]
structure In (w : World) (B : Nat) (x : Ou) : Prop where
  t : x.t.size ≤ 9223372036854775807
  o : Sg.E.LIn w B x.oA x.oC x.o
def blks (x : Ou) : List Nat := Sg.E.lblks x.oA x.o
def E : Elem Ou where
  cells := cells
  n := 5
  pos := by decide
  len := fun _ => rfl
  one := by
    intro b u hu
    simp only [cells, List.mem_cons, List.not_mem_nil, or_false] at hu
    rcases hu with rfl | rfl | rfl | rfl | rfl <;> rfl
  In := In
  blks := blks
  lt := fun h b hb => h.o.blk_lt b hb
  keepB := fun h hk => ⟨h.t, h.o.keepB fun k hm => hk k hm⟩
  more := fun h hB => ⟨h.t, h.o.more hB⟩
theorem E_n : E.n = 5 := rfl
theorem E_in {w : World} {B : Nat} {d : Ou} (h : E.In w B d) : In w B d := h
theorem E_mk {w : World} {B : Nat} {d : Ou} (h : In w B d) : E.In w B d := h
abbrev Er := (Int) × (ByteArray) × (List Sg.Er) × (Int) × (Int)
def er (x : Ou) : Er := (x.s, x.t, x.o.map Sg.er, x.i, x.m)
def bulk (x : Ou) : Nat := x.t.size + Row.bulk Sg.bulk x.o
def val (d : Ou) : Value := .agg #[.int .i64 d.s, .string d.t, .slice d.oA d.o.length d.oC, .int .i64 d.i, .int .i64 d.m]
theorem er_parts {x y : Ou} (h : er x = er y) : x.s = y.s ∧ x.t = y.t ∧ x.o.map Sg.er = y.o.map Sg.er ∧ x.i = y.i ∧ x.m = y.m := by
  unfold er at h
  obtain ⟨a0, h⟩ := Prod.mk.inj h
  obtain ⟨a1, h⟩ := Prod.mk.inj h
  obtain ⟨a2, h⟩ := Prod.mk.inj h
  obtain ⟨a3, h⟩ := Prod.mk.inj h
  exact ⟨a0, a1, a2, a3, h⟩
theorem bulk_of_er {x y : Ou} (h : er x = er y) : bulk x = bulk y := by
  obtain ⟨e_s, e_t, e_o, e_i, e_m⟩ := er_parts h
  unfold bulk
  rw [e_t, Row.bulk_of_er (fun _ _ => Sg.bulk_of_er) _ _ e_o]
theorem own_of {l0 l1 : Nat} {w : World} {x : Ou} (h_o : Sg.E.LOwn l0 l1 w x.oA x.oC x.o) (h0 : l0 ≤ l1) (p_t : x.t.size ≤ 9223372036854775807) : E.Own l0 l1 w x := by
  refine ⟨⟨p_t, h_o.inn⟩, fun k hk => ?_, ?_, fun k hk o => ?_⟩
  · have := h_o.lo_ k hk; omega
  · exact h_o.nd
  · exact h_o.fr k hk o
/-- The cells of element i. -/
theorem at_ {w : World} {B : Nat} {A : Option Addr} {c : Nat} {l : List Ou} (h : E.LIn w B A c l) {i : Nat} {x : Ou} (hi : l[i]? = some x) :
    ∃ b o : Nat, A = some ⟨b, o, none⟩ ∧ b < B ∧ w.cell? ⟨b, o + i * 5, none⟩ = some (.int .i64 x.s) ∧ w.cell? ⟨b, o + i * 5 + 1, none⟩ = some (.string x.t) ∧ w.cell? ⟨b, o + i * 5 + 2, none⟩ = some (.slice x.oA x.o.length x.oC) ∧ w.cell? ⟨b, o + i * 5 + 3, none⟩ = some (.int .i64 x.i) ∧ w.cell? ⟨b, o + i * 5 + 4, none⟩ = some (.int .i64 x.m) ∧ E.In w B x := by
  obtain ⟨b, o, e, hb, hc, hx⟩ := h.at_ hi
  exact ⟨b, o, e, hb, hc 0 _ rfl, hc 1 _ rfl, hc 2 _ rfl, hc 3 _ rfl, hc 4 _ rfl, hx⟩
/-- A variable that holds one. -/
structure Box (w : World) (g : Nat) (d : Ou) : Prop where
  c0 : w.cell? ⟨g, 0, none⟩ = some (.int .i64 d.s)
  c1 : w.cell? ⟨g, 1, none⟩ = some (.string d.t)
  c2 : w.cell? ⟨g, 2, none⟩ = some (.slice d.oA d.o.length d.oC)
  c3 : w.cell? ⟨g, 3, none⟩ = some (.int .i64 d.i)
  c4 : w.cell? ⟨g, 4, none⟩ = some (.int .i64 d.m)
theorem Box.keep {w w' : World} {g : Nat} {d : Ou} (h : Box w g d) (e : w'.heap[g]? = w.heap[g]?) : Box w' g d := by
  have e : ∀ q, w'.cell? ⟨g, q, none⟩ = w.cell? ⟨g, q, none⟩ := fun q => World.cell?_of_block (a := ⟨g, q, none⟩) e
  exact ⟨(e 0).trans h.c0, (e 1).trans h.c1, (e 2).trans h.c2, (e 3).trans h.c3, (e 4).trans h.c4⟩
theorem Box.below {w w' : World} {g B : Nat} {d : Ou} (h : Box w g d) (hb : Below B w w') (hB : g < B) : Box w' g d := h.keep (hb.block g hB)
theorem Box.chg {w w' : World} {g : Nat} {d : Ou} {T : List Nat} (h : Box w g d) (hb : Chg T w w') (hlt : g < w.heap.size) (hn : g ∉ T) : Box w' g d := h.keep (hb.block g hlt hn)
theorem Box.new (w : World) (d : Ou) (t : TypeId) : Box (w.alloc (.cells #[.int .i64 d.s, .string d.t, .slice d.oA d.o.length d.oC, .int .i64 d.i, .int .i64 d.m] t)) w.heap.size d := by
  have h := D.Blk.new w t #[.int .i64 d.s, .string d.t, .slice d.oA d.o.length d.oC, .int .i64 d.i, .int .i64 d.m]
  exact ⟨h.cell 0, h.cell 1, h.cell 2, h.cell 3, h.cell 4⟩
end Ou

/-- Returned: one of the call's own. -/
def RetOu (x : Ou.Er) (w : World) (e : Ending) (w' : World) : Prop := ∃ d : Ou, e = .returned (Ou.val d) ∧ Ou.er d = x ∧ Ou.E.Own w.heap.size w'.heap.size w' d ∧ Below w.heap.size w w'
/-- Returned: a list of the call's own. -/
def RetOuL (x : List Ou.Er) (w : World) (e : Ending) (w' : World) : Prop := ∃ (A : Option Addr) (c : Nat) (l : List Ou), e = .returned (.slice A l.length c) ∧ l.map Ou.er = x ∧ Ou.E.LOwn w.heap.size w'.heap.size w' A c l ∧ Below w.heap.size w w'
end Go.Proofs.Ytnldlbglgalbaaa
