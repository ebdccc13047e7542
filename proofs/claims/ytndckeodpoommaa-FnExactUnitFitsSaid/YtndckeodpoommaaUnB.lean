/-
  Unit: what it is and where it lies (written by gen/rec.py).
-/
import Derived.Test.YtndckeodpoommaaTr
import Derived.Test.YtndckeodpoommaaKoBase
import Derived.Test.YtndckeodpoommaaInts
namespace Go.Proofs.Ytndckeodpoommaa
open Go.RowKit

structure Un where
  nm : ByteArray
  gA : Option Addr
  gC : Nat
  g : List Int
  b : Tr Ko
namespace Un
def cells (x : Un) : List Value := [.string x.nm, .slice x.gA x.g.length x.gC, .int .i64 x.b.a.k, .int .i64 x.b.a.n, .slice x.b.a.sA x.b.a.s.length x.b.a.sC, .int .i64 x.b.a.d.k, .int .i64 x.b.a.d.n, .string x.b.a.d.t, .slice x.b.a.d.A x.b.a.d.l.length x.b.a.d.c, .slice x.b.A x.b.l.length x.b.c]
structure In (w : World) (B : Nat) (x : Un) : Prop where
  nm : x.nm.size ≤ 9223372036854775807
  g : IIn w B x.gA x.gC x.g
  b : Ko.E.In w B x.b
def blks (x : Un) : List Nat := iblk x.gA x.g ++ (Ko.E.blks x.b)
def E : Elem Un where
  cells := cells
  n := 10
  pos := by decide
  len := fun _ => rfl
  one := by
    intro b u hu
    simp only [cells, List.mem_cons, List.not_mem_nil, or_false] at hu
    rcases hu with rfl | rfl | rfl | rfl | rfl | rfl | rfl | rfl | rfl | rfl <;> rfl
  In := In
  blks := blks
  lt := fun h b hb => (List.mem_append.1 hb).elim (fun hb => h.g.blk_lt b hb) (fun hb => Elem.In.blk_lt h.b b hb)
  keepB := fun h hk => ⟨h.nm, h.g.keep fun k hm => hk k (List.mem_append.2 (.inl hm)), Elem.In.keepB h.b fun k hm => hk k (List.mem_append.2 (.inr hm))⟩
  more := fun h hB => ⟨h.nm, h.g.more hB, Elem.In.more h.b hB⟩
theorem E_n : E.n = 10 := rfl
theorem E_in {w : World} {B : Nat} {d : Un} (h : E.In w B d) : In w B d := h
theorem E_mk {w : World} {B : Nat} {d : Un} (h : In w B d) : E.In w B d := h
def er (x : Un) : Un := ⟨x.nm, none, 0, x.g, x.b.er Ko.er⟩
def bulk (x : Un) : Nat := x.nm.size + x.g.length + x.b.bulk Ko.bulk
def val (d : Un) : Value := .agg #[.string d.nm, .slice d.gA d.g.length d.gC, .int .i64 d.b.a.k, .int .i64 d.b.a.n, .slice d.b.a.sA d.b.a.s.length d.b.a.sC, .int .i64 d.b.a.d.k, .int .i64 d.b.a.d.n, .string d.b.a.d.t, .slice d.b.a.d.A d.b.a.d.l.length d.b.a.d.c, .slice d.b.A d.b.l.length d.b.c]
theorem er_parts {x y : Un} (h : er x = er y) : x.nm = y.nm ∧ x.g = y.g ∧ x.b.er Ko.er = y.b.er Ko.er := by
  simp only [er, Un.mk.injEq] at h
  obtain ⟨e_nm, _, _, e_g, e_b⟩ := h
  exact ⟨e_nm, e_g, e_b⟩
theorem bulk_of_er {x y : Un} (h : er x = er y) : bulk x = bulk y := by
  obtain ⟨e_nm, e_g, e_b⟩ := er_parts h
  unfold bulk
  rw [e_nm, e_g, Tr.bulk_of_er (fun _ _ => Ko.bulk_of_er) _ _ e_b]
theorem own_of {l0 l1 l2 : Nat} {w : World} {x : Un} (h_g : IOwn l0 l1 w x.gA x.gC x.g) (h_b : Ko.E.Own l1 l2 w x.b) (h0 : l0 ≤ l1) (h1 : l1 ≤ l2) (p_nm : x.nm.size ≤ 9223372036854775807) : E.Own l0 l2 w x := by
  refine ⟨⟨p_nm, (h_g.inn.more (show l1 ≤ l2 by omega)), h_b.inn⟩, fun k hk => ?_, ?_, fun k hk o => ?_⟩
  · rcases List.mem_append.1 hk with hk | hk
    · have := h_g.lo_ k hk; omega
    have := h_b.lo_ k hk; omega
  · exact (List.nodup_append.2 ⟨S.iblk_nodup _ _, h_b.nd, fun p hp q hq e => by
      have := h_g.inn.blk_lt p hp
      have := h_b.lo_ q hq; omega⟩)
  · rcases List.mem_append.1 hk with hk | hk
    · exact h_g.fr k hk o
    exact h_b.fr k hk o
/-- The cells of element i. -/
theorem at_ {w : World} {B : Nat} {A : Option Addr} {c : Nat} {l : List Un} (h : E.LIn w B A c l) {i : Nat} {x : Un} (hi : l[i]? = some x) :
    ∃ b o : Nat, A = some ⟨b, o, none⟩ ∧ b < B ∧ w.cell? ⟨b, o + i * 10, none⟩ = some (.string x.nm) ∧ w.cell? ⟨b, o + i * 10 + 1, none⟩ = some (.slice x.gA x.g.length x.gC) ∧ w.cell? ⟨b, o + i * 10 + 2, none⟩ = some (.int .i64 x.b.a.k) ∧ w.cell? ⟨b, o + i * 10 + 3, none⟩ = some (.int .i64 x.b.a.n) ∧ w.cell? ⟨b, o + i * 10 + 4, none⟩ = some (.slice x.b.a.sA x.b.a.s.length x.b.a.sC) ∧ w.cell? ⟨b, o + i * 10 + 5, none⟩ = some (.int .i64 x.b.a.d.k) ∧ w.cell? ⟨b, o + i * 10 + 6, none⟩ = some (.int .i64 x.b.a.d.n) ∧ w.cell? ⟨b, o + i * 10 + 7, none⟩ = some (.string x.b.a.d.t) ∧ w.cell? ⟨b, o + i * 10 + 8, none⟩ = some (.slice x.b.a.d.A x.b.a.d.l.length x.b.a.d.c) ∧ w.cell? ⟨b, o + i * 10 + 9, none⟩ = some (.slice x.b.A x.b.l.length x.b.c) ∧ E.In w B x := by
  obtain ⟨b, o, e, hb, hc, hx⟩ := h.at_ hi
  exact ⟨b, o, e, hb, hc 0 _ rfl, hc 1 _ rfl, hc 2 _ rfl, hc 3 _ rfl, hc 4 _ rfl, hc 5 _ rfl, hc 6 _ rfl, hc 7 _ rfl, hc 8 _ rfl, hc 9 _ rfl, hx⟩
/-- A variable that holds one. -/
structure Box (w : World) (g : Nat) (d : Un) : Prop where
  c0 : w.cell? ⟨g, 0, none⟩ = some (.string d.nm)
  c1 : w.cell? ⟨g, 1, none⟩ = some (.slice d.gA d.g.length d.gC)
  c2 : w.cell? ⟨g, 2, none⟩ = some (.int .i64 d.b.a.k)
  c3 : w.cell? ⟨g, 3, none⟩ = some (.int .i64 d.b.a.n)
  c4 : w.cell? ⟨g, 4, none⟩ = some (.slice d.b.a.sA d.b.a.s.length d.b.a.sC)
  c5 : w.cell? ⟨g, 5, none⟩ = some (.int .i64 d.b.a.d.k)
  c6 : w.cell? ⟨g, 6, none⟩ = some (.int .i64 d.b.a.d.n)
  c7 : w.cell? ⟨g, 7, none⟩ = some (.string d.b.a.d.t)
  c8 : w.cell? ⟨g, 8, none⟩ = some (.slice d.b.a.d.A d.b.a.d.l.length d.b.a.d.c)
  c9 : w.cell? ⟨g, 9, none⟩ = some (.slice d.b.A d.b.l.length d.b.c)
theorem Box.keep {w w' : World} {g : Nat} {d : Un} (h : Box w g d) (e : w'.heap[g]? = w.heap[g]?) : Box w' g d := by
  have e : ∀ q, w'.cell? ⟨g, q, none⟩ = w.cell? ⟨g, q, none⟩ := fun q => World.cell?_of_block (a := ⟨g, q, none⟩) e
  exact ⟨(e 0).trans h.c0, (e 1).trans h.c1, (e 2).trans h.c2, (e 3).trans h.c3, (e 4).trans h.c4, (e 5).trans h.c5, (e 6).trans h.c6, (e 7).trans h.c7, (e 8).trans h.c8, (e 9).trans h.c9⟩
theorem Box.below {w w' : World} {g B : Nat} {d : Un} (h : Box w g d) (hb : Below B w w') (hB : g < B) : Box w' g d := h.keep (hb.block g hB)
theorem Box.chg {w w' : World} {g : Nat} {d : Un} {T : List Nat} (h : Box w g d) (hb : Chg T w w') (hlt : g < w.heap.size) (hn : g ∉ T) : Box w' g d := h.keep (hb.block g hlt hn)
theorem Box.new (w : World) (d : Un) (t : TypeId) : Box (w.alloc (.cells #[.string d.nm, .slice d.gA d.g.length d.gC, .int .i64 d.b.a.k, .int .i64 d.b.a.n, .slice d.b.a.sA d.b.a.s.length d.b.a.sC, .int .i64 d.b.a.d.k, .int .i64 d.b.a.d.n, .string d.b.a.d.t, .slice d.b.a.d.A d.b.a.d.l.length d.b.a.d.c, .slice d.b.A d.b.l.length d.b.c] t)) w.heap.size d := by
  have h := D.Blk.new w t #[.string d.nm, .slice d.gA d.g.length d.gC, .int .i64 d.b.a.k, .int .i64 d.b.a.n, .slice d.b.a.sA d.b.a.s.length d.b.a.sC, .int .i64 d.b.a.d.k, .int .i64 d.b.a.d.n, .string d.b.a.d.t, .slice d.b.a.d.A d.b.a.d.l.length d.b.a.d.c, .slice d.b.A d.b.l.length d.b.c]
  exact ⟨h.cell 0, h.cell 1, h.cell 2, h.cell 3, h.cell 4, h.cell 5, h.cell 6, h.cell 7, h.cell 8, h.cell 9⟩
end Un

/-- Returned: one of the call's own. -/
def RetUn (x : Un) (w : World) (e : Ending) (w' : World) : Prop := ∃ d : Un, e = .returned (Un.val d) ∧ Un.er d = x ∧ Un.E.Own w.heap.size w'.heap.size w' d ∧ Below w.heap.size w w'
/-- Returned: a list of the call's own. -/
def RetUnL (x : List Un) (w : World) (e : Ending) (w' : World) : Prop := ∃ (A : Option Addr) (c : Nat) (l : List Un), e = .returned (.slice A l.length c) ∧ l.map Un.er = x ∧ Un.E.LOwn w.heap.size w'.heap.size w' A c l ∧ Below w.heap.size w w'
end Go.Proofs.Ytndckeodpoommaa
