/-
  Capture: what it is and where it lies (written by gen/tree.py).
-/
import Derived.Test.YtndckeodpoommaaTr
import Derived.Test.YtndckeodpoommaaSMarks
import Derived.Test.YtndckeodpoommaaSTrees
import Derived.Test.YtndckeodpoommaaSynL
namespace Go.Proofs.Ytndckeodpoommaa
open Go.RowKit

structure Ka where
  N : S
  dep : Int
  F : S
namespace Ka
def cells (x : Ka) : List Value := [.int .i64 x.N.k, .int .i64 x.N.n, .string x.N.t, .slice x.N.sa x.N.s.length x.N.sc, .slice x.N.A x.N.l.length x.N.c, .int .i64 x.dep, .int .i64 x.F.k, .int .i64 x.F.n, .string x.F.t, .slice x.F.sa x.F.s.length x.F.sc, .slice x.F.A x.F.l.length x.F.c]
structure In (w : World) (B : Nat) (x : Ka) : Prop where
  N : x.N.In w B
  F : x.F.In w B
def blks (x : Ka) : List Nat := S.blks x.N ++ (S.blks x.F)
def H : Elem Ka where
  cells := cells
  n := 11
  pos := by decide
  len := fun _ => rfl
  one := by
    intro b u hu
    simp only [cells, List.mem_cons, List.not_mem_nil, or_false] at hu
    rcases hu with rfl | rfl | rfl | rfl | rfl | rfl | rfl | rfl | rfl | rfl | rfl <;> rfl
  In := In
  blks := blks
  lt := fun h b hb => (List.mem_append.1 hb).elim (fun hb => h.N.blk_lt b hb) (fun hb => h.F.blk_lt b hb)
  keepB := fun h hk => ⟨h.N.keepB fun k hm => hk k (List.mem_append.2 (.inl hm)), h.F.keepB fun k hm => hk k (List.mem_append.2 (.inr hm))⟩
  more := fun h hB => ⟨h.N.more hB, h.F.more hB⟩
def E : Elem (Tr Ka) := Tr.E H
theorem E_n : E.n = 12 := rfl
def er (x : Ka) : Ka := ⟨x.N.er, x.dep, x.F.er⟩
def bulk (x : Ka) : Nat := x.N.bulk + x.F.bulk
def val (d : Tr Ka) : Value := .agg #[.int .i64 d.a.N.k, .int .i64 d.a.N.n, .string d.a.N.t, .slice d.a.N.sa d.a.N.s.length d.a.N.sc, .slice d.a.N.A d.a.N.l.length d.a.N.c, .int .i64 d.a.dep, .int .i64 d.a.F.k, .int .i64 d.a.F.n, .string d.a.F.t, .slice d.a.F.sa d.a.F.s.length d.a.F.sc, .slice d.a.F.A d.a.F.l.length d.a.F.c, .slice d.A d.l.length d.c]
def eqB (x y : Ka) : Bool := (S.eqB x.N y.N && (x.dep == y.dep && (S.eqB x.F y.F)))
theorem er_er (x : Ka) : er (er x) = er x := by
  simp only [er, S.er_er]
theorem eqB_of_er {x y : Ka} (h : er x = er y) : eqB x y = true := by
  simp only [er, Ka.mk.injEq] at h
  obtain ⟨e_N, e_dep, e_F⟩ := h
  simp only [eqB, Bool.and_eq_true]
  exact ⟨S.eqB_of_er e_N, by rw [e_dep]; exact beq_self_eq_true _, S.eqB_of_er e_F⟩
theorem bulk_of_er {x y : Ka} (h : er x = er y) : bulk x = bulk y := by
  simp only [er, Ka.mk.injEq] at h
  obtain ⟨e_N, e_dep, e_F⟩ := h
  unfold bulk
  rw [← S.bulk_er x.N, e_N, S.bulk_er]
  rw [← S.bulk_er x.F, e_F, S.bulk_er]
theorem eqB_er2 (x y : Ka) : eqB x y = eqB (er x) (er y) := by
  simp only [eqB, er]
  rw [S.eqB_er x.N y.N, S.eqB_er x.F y.F]
theorem E_in {w : World} {B : Nat} {d : Tr Ka} (h : E.In w B d) : In w B d.a ∧ E.LIn w B d.A d.c d.l := by
  cases d
  exact Tr.in_iff.1 h
theorem E_mk {w : World} {B : Nat} {d : Tr Ka} (h : In w B d.a) (k : E.LIn w B d.A d.c d.l) : E.In w B d := by
  cases d
  exact Tr.in_iff.2 ⟨h, k⟩
/-- The cells of element i. -/
theorem at_ {w : World} {B : Nat} {A : Option Addr} {c : Nat} {l : List (Tr Ka)} (h : E.LIn w B A c l) {i : Nat} {x : Tr Ka} (hi : l[i]? = some x) :
    ∃ b o : Nat, A = some ⟨b, o, none⟩ ∧ b < B ∧ w.cell? ⟨b, o + i * 12, none⟩ = some (.int .i64 x.a.N.k) ∧ w.cell? ⟨b, o + i * 12 + 1, none⟩ = some (.int .i64 x.a.N.n) ∧ w.cell? ⟨b, o + i * 12 + 2, none⟩ = some (.string x.a.N.t) ∧ w.cell? ⟨b, o + i * 12 + 3, none⟩ = some (.slice x.a.N.sa x.a.N.s.length x.a.N.sc) ∧ w.cell? ⟨b, o + i * 12 + 4, none⟩ = some (.slice x.a.N.A x.a.N.l.length x.a.N.c) ∧ w.cell? ⟨b, o + i * 12 + 5, none⟩ = some (.int .i64 x.a.dep) ∧ w.cell? ⟨b, o + i * 12 + 6, none⟩ = some (.int .i64 x.a.F.k) ∧ w.cell? ⟨b, o + i * 12 + 7, none⟩ = some (.int .i64 x.a.F.n) ∧ w.cell? ⟨b, o + i * 12 + 8, none⟩ = some (.string x.a.F.t) ∧ w.cell? ⟨b, o + i * 12 + 9, none⟩ = some (.slice x.a.F.sa x.a.F.s.length x.a.F.sc) ∧ w.cell? ⟨b, o + i * 12 + 10, none⟩ = some (.slice x.a.F.A x.a.F.l.length x.a.F.c) ∧ w.cell? ⟨b, o + i * 12 + 11, none⟩ = some (.slice x.A x.l.length x.c) ∧ E.In w B x := by
  obtain ⟨b, o, e, hb, hc, hx⟩ := h.at_ hi
  exact ⟨b, o, e, hb, hc 0 _ rfl, hc 1 _ rfl, hc 2 _ rfl, hc 3 _ rfl, hc 4 _ rfl, hc 5 _ rfl, hc 6 _ rfl, hc 7 _ rfl, hc 8 _ rfl, hc 9 _ rfl, hc 10 _ rfl, hc 11 _ rfl, hx⟩
/-- A variable that holds one. -/
structure Box (w : World) (g : Nat) (d : Tr Ka) : Prop where
  c0 : w.cell? ⟨g, 0, none⟩ = some (.int .i64 d.a.N.k)
  c1 : w.cell? ⟨g, 1, none⟩ = some (.int .i64 d.a.N.n)
  c2 : w.cell? ⟨g, 2, none⟩ = some (.string d.a.N.t)
  c3 : w.cell? ⟨g, 3, none⟩ = some (.slice d.a.N.sa d.a.N.s.length d.a.N.sc)
  c4 : w.cell? ⟨g, 4, none⟩ = some (.slice d.a.N.A d.a.N.l.length d.a.N.c)
  c5 : w.cell? ⟨g, 5, none⟩ = some (.int .i64 d.a.dep)
  c6 : w.cell? ⟨g, 6, none⟩ = some (.int .i64 d.a.F.k)
  c7 : w.cell? ⟨g, 7, none⟩ = some (.int .i64 d.a.F.n)
  c8 : w.cell? ⟨g, 8, none⟩ = some (.string d.a.F.t)
  c9 : w.cell? ⟨g, 9, none⟩ = some (.slice d.a.F.sa d.a.F.s.length d.a.F.sc)
  c10 : w.cell? ⟨g, 10, none⟩ = some (.slice d.a.F.A d.a.F.l.length d.a.F.c)
  c11 : w.cell? ⟨g, 11, none⟩ = some (.slice d.A d.l.length d.c)
theorem Box.keep {w w' : World} {g : Nat} {d : Tr Ka} (h : Box w g d) (e : w'.heap[g]? = w.heap[g]?) : Box w' g d := by
  have e : ∀ q, w'.cell? ⟨g, q, none⟩ = w.cell? ⟨g, q, none⟩ := fun q => World.cell?_of_block (a := ⟨g, q, none⟩) e
  exact ⟨(e 0).trans h.c0, (e 1).trans h.c1, (e 2).trans h.c2, (e 3).trans h.c3, (e 4).trans h.c4, (e 5).trans h.c5, (e 6).trans h.c6, (e 7).trans h.c7, (e 8).trans h.c8, (e 9).trans h.c9, (e 10).trans h.c10, (e 11).trans h.c11⟩
theorem Box.below {w w' : World} {g B : Nat} {d : Tr Ka} (h : Box w g d) (hb : Below B w w') (hB : g < B) : Box w' g d := h.keep (hb.block g hB)
theorem Box.chg {w w' : World} {g : Nat} {d : Tr Ka} {T : List Nat} (h : Box w g d) (hb : Chg T w w') (hlt : g < w.heap.size) (hn : g ∉ T) : Box w' g d := h.keep (hb.block g hlt hn)
theorem Box.new (w : World) (d : Tr Ka) (t : TypeId) : Box (w.alloc (.cells #[.int .i64 d.a.N.k, .int .i64 d.a.N.n, .string d.a.N.t, .slice d.a.N.sa d.a.N.s.length d.a.N.sc, .slice d.a.N.A d.a.N.l.length d.a.N.c, .int .i64 d.a.dep, .int .i64 d.a.F.k, .int .i64 d.a.F.n, .string d.a.F.t, .slice d.a.F.sa d.a.F.s.length d.a.F.sc, .slice d.a.F.A d.a.F.l.length d.a.F.c, .slice d.A d.l.length d.c] t)) w.heap.size d := by
  have h := D.Blk.new w t #[.int .i64 d.a.N.k, .int .i64 d.a.N.n, .string d.a.N.t, .slice d.a.N.sa d.a.N.s.length d.a.N.sc, .slice d.a.N.A d.a.N.l.length d.a.N.c, .int .i64 d.a.dep, .int .i64 d.a.F.k, .int .i64 d.a.F.n, .string d.a.F.t, .slice d.a.F.sa d.a.F.s.length d.a.F.sc, .slice d.a.F.A d.a.F.l.length d.a.F.c, .slice d.A d.l.length d.c]
  exact ⟨h.cell 0, h.cell 1, h.cell 2, h.cell 3, h.cell 4, h.cell 5, h.cell 6, h.cell 7, h.cell 8, h.cell 9, h.cell 10, h.cell 11⟩
end Ka

/-- Returned: one of the call's own. -/
def RetKa (x : Tr Ka) (w : World) (e : Ending) (w' : World) : Prop := ∃ d : Tr Ka, e = .returned (Ka.val d) ∧ d.er Ka.er = x ∧ Ka.E.Own w.heap.size w'.heap.size w' d ∧ Below w.heap.size w w'
/-- Returned: a list of the call's own. -/
def RetKaL (x : List (Tr Ka)) (w : World) (e : Ending) (w' : World) : Prop := ∃ (A : Option Addr) (c : Nat) (l : List (Tr Ka)), e = .returned (.slice A l.length c) ∧ Tr.erL Ka.er l = x ∧ Ka.E.LOwn w.heap.size w'.heap.size w' A c l ∧ Below w.heap.size w w'
end Go.Proofs.Ytndckeodpoommaa
