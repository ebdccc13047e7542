/-
  Code: what it is and where it lies (written by gen/rec.py).
-/
import Derived.Test.YtpigpncbjckbcaaRecB
import Derived.Test.YtpigpncbjckbcaaNtB
namespace Go.Proofs.Ytpigpncbjckbcaa
open Go.RowKit

structure Cd where
  p : Int
  s : Int
  c : Int
  lA : Option Addr
  lC : Nat
  l : List Nt
namespace Cd
def cells (x : Cd) : List Value := [.int .i64 x.p, .int .i64 x.s, .int .i64 x.c, .slice x.lA x.l.length x.lC]
structure In (w : World) (B : Nat) (x : Cd) : Prop where
  l : Nt.E.LIn w B x.lA x.lC x.l
def blks (x : Cd) : List Nat := Nt.E.lblks x.lA x.l
def E : Elem Cd where
  cells := cells
  n := 4
  pos := by decide
  len := fun _ => rfl
  one := by
    intro b u hu
    simp only [cells, List.mem_cons, List.not_mem_nil, or_false] at hu
    rcases hu with rfl | rfl | rfl | rfl <;> rfl
  In := In
  blks := blks
  lt := fun h b hb => h.l.blk_lt b hb
  keepB := fun h hk => ⟨h.l.keepB fun k hm => hk k hm⟩
  more := fun h hB => ⟨h.l.more hB⟩
theorem E_n : E.n = 4 := rfl
theorem E_in {w : World} {B : Nat} {d : Cd} (h : E.In w B d) : In w B d := h
theorem E_mk {w : World} {B : Nat} {d : Cd} (h : In w B d) : E.In w B d := h
abbrev Er := (Int) × (Int) × (Int) × (List Nt.Er)
def er (x : Cd) : Er := (x.p, x.s, x.c, x.l.map Nt.er)
def bulk (x : Cd) : Nat := Row.bulk Nt.bulk x.l
def val (d : Cd) : Value := .agg #[.int .i64 d.p, .int .i64 d.s, .int .i64 d.c, .slice d.lA d.l.length d.lC]
theorem er_parts {x y : Cd} (h : er x = er y) : x.p = y.p ∧ x.s = y.s ∧ x.c = y.c ∧ x.l.map Nt.er = y.l.map Nt.er := by
  unfold er at h
  obtain ⟨a0, h⟩ := Prod.mk.inj h
  obtain ⟨a1, h⟩ := Prod.mk.inj h
  obtain ⟨a2, h⟩ := Prod.mk.inj h
  exact ⟨a0, a1, a2, h⟩
theorem bulk_of_er {x y : Cd} (h : er x = er y) : bulk x = bulk y := by
  obtain ⟨e_p, e_s, e_c, e_l⟩ := er_parts h
  unfold bulk
  rw [Row.bulk_of_er (fun _ _ => Nt.bulk_of_er) _ _ e_l]
theorem own_of {l0 l1 : Nat} {w : World} {x : Cd} (h_l : Nt.E.LOwn l0 l1 w x.lA x.lC x.l) (h0 : l0 ≤ l1)  : E.Own l0 l1 w x := by
  refine ⟨⟨h_l.inn⟩, fun k hk => ?_, ?_, fun k hk o => ?_⟩
  · have := h_l.lo_ k hk; omega
  · exact h_l.nd
  · exact h_l.fr k hk o
/-- The cells of element i. -/
theorem at_ {w : World} {B : Nat} {A : Option Addr} {c : Nat} {l : List Cd} (h : E.LIn w B A c l) {i : Nat} {x : Cd} (hi : l[i]? = some x) :
    ∃ b o : Nat, A = some ⟨b, o, none⟩ ∧ b < B ∧ w.cell? ⟨b, o + i * 4, none⟩ = some (.int .i64 x.p) ∧ w.cell? ⟨b, o + i * 4 + 1, none⟩ = some (.int .i64 x.s) ∧ w.cell? ⟨b, o + i * 4 + 2, none⟩ = some (.int .i64 x.c) ∧ w.cell? ⟨b, o + i * 4 + 3, none⟩ = some (.slice x.lA x.l.length x.lC) ∧ E.In w B x := by
  obtain ⟨b, o, e, hb, hc, hx⟩ := h.at_ hi
  exact ⟨b, o, e, hb, hc 0 _ rfl, hc 1 _ rfl, hc 2 _ rfl, hc 3 _ rfl, hx⟩
/-- A variable that holds one. -/
structure Box (w : World) (g : Nat) (d : Cd) : Prop where
  c0 : w.cell? ⟨g, 0, none⟩ = some (.int .i64 d.p)
  c1 : w.cell? ⟨g, 1, none⟩ = some (.int .i64 d.s)
  c2 : w.cell? ⟨g, 2, none⟩ = some (.int .i64 d.c)
  c3 : w.cell? ⟨g, 3, none⟩ = some (.slice d.lA d.l.length d.lC)
theorem Box.keep {w w' : World} {g : Nat} {d : Cd} (h : Box w g d) (e : w'.heap[g]? = w.heap[g]?) : Box w' g d := by
  have e : ∀ q, w'.cell? ⟨g, q, none⟩ = w.cell? ⟨g, q, none⟩ := fun q => World.cell?_of_block (a := ⟨g, q, none⟩) e
  exact ⟨(e 0).trans h.c0, (e 1).trans h.c1, (e 2).trans h.c2, (e 3).trans h.c3⟩
theorem Box.below {w w' : World} {g B : Nat} {d : Cd} (h : Box w g d) (hb : Below B w w') (hB : g < B) : Box w' g d := h.keep (hb.block g hB)
theorem Box.chg {w w' : World} {g : Nat} {d : Cd} {T : List Nat} (h : Box w g d) (hb : Chg T w w') (hlt : g < w.heap.size) (hn : g ∉ T) : Box w' g d := h.keep (hb.block g hlt hn)
theorem Box.new (w : World) (d : Cd) (t : TypeId) : Box (w.alloc (.cells #[.int .i64 d.p, .int .i64 d.s, .int .i64 d.c, .slice d.lA d.l.length d.lC] t)) w.heap.size d := by
  have h := D.Blk.new w t #[.int .i64 d.p, .int .i64 d.s, .int .i64 d.c, .slice d.lA d.l.length d.lC]
  exact ⟨h.cell 0, h.cell 1, h.cell 2, h.cell 3⟩
end Cd

/-- Returned: one of the call's own. -/
def RetCd (x : Cd.Er) (w : World) (e : Ending) (w' : World) : Prop := ∃ d : Cd, e = .returned (Cd.val d) ∧ Cd.er d = x ∧ Cd.E.Own w.heap.size w'.heap.size w' d ∧ Below w.heap.size w w'
/-- Returned: a list of the call's own. -/
def RetCdL (x : List Cd.Er) (w : World) (e : Ending) (w' : World) : Prop := ∃ (A : Option Addr) (c : Nat) (l : List Cd), e = .returned (.slice A l.length c) ∧ l.map Cd.er = x ∧ Cd.E.LOwn w.heap.size w'.heap.size w' A c l ∧ Below w.heap.size w w'
end Go.Proofs.Ytpigpncbjckbcaa
