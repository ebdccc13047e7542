/-
  Image: what it is and where it lies (written by gen/rec.py).
-/
import Derived.Test.YtpigpncbjckbcaaRecB
import Derived.Test.YtpigpncbjckbcaaCdB
namespace Go.Proofs.Ytpigpncbjckbcaa
open Go.RowKit

structure Im where
  lA : Option Addr
  lC : Nat
  l : List Cd
  m : Int
namespace Im
def cells (x : Im) : List Value := [.slice x.lA x.l.length x.lC, .int .i64 x.m]
structure In (w : World) (B : Nat) (x : Im) : Prop where
  l : Cd.E.LIn w B x.lA x.lC x.l
def blks (x : Im) : List Nat := Cd.E.lblks x.lA x.l
def E : Elem Im where
  cells := cells
  n := 2
  pos := by decide
  len := fun _ => rfl
  one := by
    intro b u hu
    simp only [cells, List.mem_cons, List.not_mem_nil, or_false] at hu
    rcases hu with rfl | rfl <;> rfl
  In := In
  blks := blks
  lt := fun h b hb => h.l.blk_lt b hb
  keepB := fun h hk => ⟨h.l.keepB fun k hm => hk k hm⟩
  more := fun h hB => ⟨h.l.more hB⟩
theorem E_n : E.n = 2 := rfl
theorem E_in {w : World} {B : Nat} {d : Im} (h : E.In w B d) : In w B d := h
theorem E_mk {w : World} {B : Nat} {d : Im} (h : In w B d) : E.In w B d := h
abbrev Er := (List Cd.Er) × (Int)
def er (x : Im) : Er := (x.l.map Cd.er, x.m)
def bulk (x : Im) : Nat := Row.bulk Cd.bulk x.l
def val (d : Im) : Value := .agg #[.slice d.lA d.l.length d.lC, .int .i64 d.m]
theorem er_parts {x y : Im} (h : er x = er y) : x.l.map Cd.er = y.l.map Cd.er ∧ x.m = y.m := by
  unfold er at h
  obtain ⟨a0, h⟩ := Prod.mk.inj h
  exact ⟨a0, h⟩
theorem bulk_of_er {x y : Im} (h : er x = er y) : bulk x = bulk y := by
  obtain ⟨e_l, e_m⟩ := er_parts h
  unfold bulk
  rw [Row.bulk_of_er (fun _ _ => Cd.bulk_of_er) _ _ e_l]
theorem own_of {l0 l1 : Nat} {w : World} {x : Im} (h_l : Cd.E.LOwn l0 l1 w x.lA x.lC x.l) (h0 : l0 ≤ l1)  : E.Own l0 l1 w x := by
  refine ⟨⟨h_l.inn⟩, fun k hk => ?_, ?_, fun k hk o => ?_⟩
  · have := h_l.lo_ k hk; omega
  · exact h_l.nd
  · exact h_l.fr k hk o
/-- The cells of element i. -/
theorem at_ {w : World} {B : Nat} {A : Option Addr} {c : Nat} {l : List Im} (h : E.LIn w B A c l) {i : Nat} {x : Im} (hi : l[i]? = some x) :
    ∃ b o : Nat, A = some ⟨b, o, none⟩ ∧ b < B ∧ w.cell? ⟨b, o + i * 2, none⟩ = some (.slice x.lA x.l.length x.lC) ∧ w.cell? ⟨b, o + i * 2 + 1, none⟩ = some (.int .i64 x.m) ∧ E.In w B x := by
  obtain ⟨b, o, e, hb, hc, hx⟩ := h.at_ hi
  exact ⟨b, o, e, hb, hc 0 _ rfl, hc 1 _ rfl, hx⟩
/-- A variable that holds one. -/
structure Box (w : World) (g : Nat) (d : Im) : Prop where
  c0 : w.cell? ⟨g, 0, none⟩ = some (.slice d.lA d.l.length d.lC)
  c1 : w.cell? ⟨g, 1, none⟩ = some (.int .i64 d.m)
theorem Box.keep {w w' : World} {g : Nat} {d : Im} (h : Box w g d) (e : w'.heap[g]? = w.heap[g]?) : Box w' g d := by
  have e : ∀ q, w'.cell? ⟨g, q, none⟩ = w.cell? ⟨g, q, none⟩ := fun q => World.cell?_of_block (a := ⟨g, q, none⟩) e
  exact ⟨(e 0).trans h.c0, (e 1).trans h.c1⟩
theorem Box.below {w w' : World} {g B : Nat} {d : Im} (h : Box w g d) (hb : Below B w w') (hB : g < B) : Box w' g d := h.keep (hb.block g hB)
theorem Box.chg {w w' : World} {g : Nat} {d : Im} {T : List Nat} (h : Box w g d) (hb : Chg T w w') (hlt : g < w.heap.size) (hn : g ∉ T) : Box w' g d := h.keep (hb.block g hlt hn)
theorem Box.new (w : World) (d : Im) (t : TypeId) : Box (w.alloc (.cells #[.slice d.lA d.l.length d.lC, .int .i64 d.m] t)) w.heap.size d := by
  have h := D.Blk.new w t #[.slice d.lA d.l.length d.lC, .int .i64 d.m]
  exact ⟨h.cell 0, h.cell 1⟩
end Im

/-- Returned: one of the call's own. -/
def RetIm (x : Im.Er) (w : World) (e : Ending) (w' : World) : Prop := ∃ d : Im, e = .returned (Im.val d) ∧ Im.er d = x ∧ Im.E.Own w.heap.size w'.heap.size w' d ∧ Below w.heap.size w w'
/-- Returned: a list of the call's own. -/
def RetImL (x : List Im.Er) (w : World) (e : Ending) (w' : World) : Prop := ∃ (A : Option Addr) (c : Nat) (l : List Im), e = .returned (.slice A l.length c) ∧ l.map Im.er = x ∧ Im.E.LOwn w.heap.size w'.heap.size w' A c l ∧ Below w.heap.size w w'
end Go.Proofs.Ytpigpncbjckbcaa
