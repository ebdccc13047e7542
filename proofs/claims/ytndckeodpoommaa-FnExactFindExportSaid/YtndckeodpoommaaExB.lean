/-
  Expanders: a row of bindings, a row of rules and three numbers (written by gen/exp.py).
-/
import Derived.Test.YtndckeodpoommaaRuR
import Derived.Test.YtndckeodpoommaaEqBd
import Derived.Test.YtndckeodpoommaaBindM
import Derived.Deep.RegionHeld3
namespace Go.Proofs.Ytndckeodpoommaa
open Go.RowKit

structure Ex where
  A0 : Option Addr
  c0 : Nat
  l0 : List Bd
  A1 : Option Addr
  c1 : Nat
  l1 : List Ru
  s : Int
  v : Int
  t : Int
namespace Ex
def val (x : Ex) : Value := .agg #[.slice x.A0 x.l0.length x.c0, .slice x.A1 x.l1.length x.c1, .int .i64 x.s, .int .i64 x.v, .int .i64 x.t]
def er (x : Ex) : (List Bd × List (List S × List S × List S)) × (Int × Int × Int) := ((Bd.erL x.l0, Ru.erR x.l1), (x.s, x.v, x.t))
def bulk (x : Ex) : Nat := Bd.bulkL x.l0 + Ru.bulkR x.l1
structure In (w : World) (B : Nat) (x : Ex) : Prop where
  a : Bd.E.LIn w B x.A0 x.c0 x.l0
  b : Ru.E.LIn w B x.A1 x.c1 x.l1
structure Own (lo hi : Nat) (w : World) (x : Ex) : Prop where
  a : Bd.E.LOwn lo hi w x.A0 x.c0 x.l0
  b : Ru.E.LOwn lo hi w x.A1 x.c1 x.l1
  ab : ∀ k ∈ Bd.E.lblks x.A0 x.l0, k ∉ Ru.E.lblks x.A1 x.l1
theorem er_parts {x y : Ex} (h : x.er = y.er) : Bd.erL x.l0 = Bd.erL y.l0 ∧ Ru.erR x.l1 = Ru.erR y.l1 ∧ x.s = y.s ∧ x.v = y.v ∧ x.t = y.t := by
  unfold er at h
  obtain ⟨h1, h2⟩ := Prod.mk.inj h
  obtain ⟨h3, h4⟩ := Prod.mk.inj h1
  obtain ⟨h5, h6⟩ := Prod.mk.inj h2
  obtain ⟨h7, h8⟩ := Prod.mk.inj h6
  exact ⟨h3, h4, h5, h7, h8⟩
theorem In.below {w w' : World} {B : Nat} {x : Ex} (h : In w B x) (hb : Below B w w') : In w' B x := ⟨h.a.below hb, h.b.below hb⟩
theorem In.more {w : World} {B B' : Nat} {x : Ex} (h : In w B x) (hB : B ≤ B') : In w B' x := ⟨h.a.more hB, h.b.more hB⟩
theorem In.drew {w : World} {B : Nat} {x : Ex} (h : In w B x) : In w.drew B x := ⟨h.a.drew, h.b.drew⟩
theorem Own.inn {lo hi : Nat} {w : World} {x : Ex} (h : Own lo hi w x) : In w hi x := ⟨h.a.inn, h.b.inn⟩
theorem Own.below {lo hi : Nat} {w w' : World} {x : Ex} (h : Own lo hi w x) (hb : Below hi w w') : Own lo hi w' x := ⟨h.a.below hb, h.b.below hb, h.ab⟩
theorem Own.far {lo hi : Nat} {w : World} {x : Ex} (h : Own lo hi w x) {p : Addr} (hp : p.block < lo) (u : Value) : Own lo hi (w.setCell p u) x := ⟨h.a.far hp u, h.b.far hp u, h.ab⟩
theorem Own.wide {lo hi lo' hi' : Nat} {w : World} {x : Ex} (h : Own lo hi w x) (h1 : lo' ≤ lo) (h2 : hi ≤ hi') : Own lo' hi' w x := ⟨h.a.wide h1 h2, h.b.wide h1 h2, h.ab⟩
structure Box (w : World) (g : Nat) (x : Ex) : Prop where
  x0 : w.cell? ⟨g, 0, none⟩ = some (.slice x.A0 x.l0.length x.c0)
  x1 : w.cell? ⟨g, 1, none⟩ = some (.slice x.A1 x.l1.length x.c1)
  x2 : w.cell? ⟨g, 2, none⟩ = some (.int .i64 x.s)
  x3 : w.cell? ⟨g, 3, none⟩ = some (.int .i64 x.v)
  x4 : w.cell? ⟨g, 4, none⟩ = some (.int .i64 x.t)
theorem Box.keep {w w' : World} {g : Nat} {x : Ex} (h : Box w g x) (e : w'.heap[g]? = w.heap[g]?) : Box w' g x :=
  ⟨(World.cell?_of_block e).trans h.x0, (World.cell?_of_block e).trans h.x1, (World.cell?_of_block e).trans h.x2, (World.cell?_of_block e).trans h.x3, (World.cell?_of_block e).trans h.x4⟩
theorem Box.below {w w' : World} {g B : Nat} {x : Ex} (h : Box w g x) (hb : Below B w w') (hB : g < B) : Box w' g x := h.keep (hb.block g hB)
theorem Box.new (w : World) (x : Ex) (t : TypeId) : Box (w.alloc (.cells #[.slice x.A0 x.l0.length x.c0, .slice x.A1 x.l1.length x.c1, .int .i64 x.s, .int .i64 x.v, .int .i64 x.t] t)) w.heap.size x := by
  have h := D.Blk.new w t #[.slice x.A0 x.l0.length x.c0, .slice x.A1 x.l1.length x.c1, .int .i64 x.s, .int .i64 x.v, .int .i64 x.t]
  exact ⟨h.cell 0, h.cell 1, h.cell 2, h.cell 3, h.cell 4⟩
def eqB (x y : Ex) : Bool := Bd.eqBL x.l0 y.l0 && (Ru.eqR x.l1 y.l1 && (x.s == y.s && (x.v == y.v && x.t == y.t)))
theorem eqB_er {a b a2 b2 : Ex} (h1 : er a = er a2) (h2 : er b = er b2) : eqB a b = eqB a2 b2 := by
  obtain ⟨e1, e2, e3, e4, e5⟩ := er_parts h1
  obtain ⟨f1, f2, f3, f4, f5⟩ := er_parts h2
  unfold eqB; rw [Bd.eqBL_er e1 f1, Ru.eqR_er e2 f2, e3, e4, e5, f3, f4, f5]
end Ex

set_option maxRecDepth 100000 in
set_option maxHeartbeats 4000000 in
theorem szEx_any (x : Ex) (B : Nat) (w : World) (left : Int) (h0 : 0 ≤ left) (h1 : left ≤ 1048576) (hin : x.In w B) (hB : B ≤ w.heap.size) :
    Calls Try.prog 48 #[x.val, .int .i64 left] w fun e w' => e = .returned (.int .i64 (szR x.bulk left)) ∧ Below w.heap.size w w' := by
  have hbu : (x.bulk : Int) = (Bd.bulkL x.l0 : Int) + (Ru.bulkR x.l1 : Int) := by unfold Ex.bulk; omega
  obtain ⟨W1, hW1⟩ : ∃ W1, W1 = w.alloc (.cells #[.slice x.A0 x.l0.length x.c0, .slice x.A1 x.l1.length x.c1, .int .i64 x.s, .int .i64 x.v, .int .i64 x.t] 40) := ⟨_, rfl⟩
  have z1 : W1.heap.size = w.heap.size + 1 := by rw [hW1]; simp
  have B1 : Below w.heap.size w W1 := by rw [hW1]; exact (Below.refl _ _).alloc (Nat.le_refl _) _
  have X0 : Ex.Box W1 w.heap.size x := by rw [hW1]; exact Ex.Box.new _ _ _
  have hc0 := hin.a.cap
  have hc1 := hin.b.cap
  have hz := hin.below (B1.mono hB)
  unfold Ex.val
  by_cases hz0 : (Bd.bulkL x.l0 : Int) ≤ left
  · by_cases hz1 : (Ru.bulkR x.l1 : Int) ≤ left - (Bd.bulkL x.l0 : Int)
    · skip
      have HR : Hid (szR x.bulk left = left - (Bd.bulkL x.l0 : Int) - (Ru.bulkR x.l1 : Int)) := by show _ = _; rw [szR_yes (by omega)]; omega
      clear hbu
      have X0q := X0
      obtain ⟨a0, a1, a2, a3, a4⟩ := X0q
      go_enter Try.func48, Try.ntmps48
      go_wp2_with fail
      rw [← hW1]
      clear hW1 a0 a1 a2 a3 a4
      refine (szBdL_any x.A0 x.c0 x.l0 B _ left hc0 h0 h1 hz.a (by omega)).mono ?_
      rintro e w1 ⟨rfl, hb1⟩
      have y1 := hb1.size
      have X1 := X0.below hb1 (by omega)
      have b1 := B1.trans (hb1.mono (by omega))
      have hz1 := hin.below (b1.mono hB)
      clear hb1 X0 B1 hz
      rw [szR_yes (by omega)]
      have n0 : ¬ (left - (Bd.bulkL x.l0 : Int) < 0) := by omega
      have X0q := X1
      obtain ⟨a0, a1, a2, a3, a4⟩ := X0q
      go_wp2_with fail
      clear a0 a1 a2 a3 a4
      refine (szRuL_any x.A1 x.c1 x.l1 B _ (left - (Bd.bulkL x.l0 : Int)) hc1 (by omega) (by omega) hz1.b (by omega)).mono ?_
      rintro e w2 ⟨rfl, hb2⟩
      have b2 := b1.trans (hb2.mono (by omega))
      clear hb2 X1 hz1
      rw [szR_yes (by omega)]
      have n1 : ¬ (left - (Bd.bulkL x.l0 : Int) - (Ru.bulkR x.l1 : Int) < 0) := by omega
      go_wp2_with fail
      go_ret
      exact ⟨ret_int HR.out.symm, b2⟩
    · skip
      have HR : Hid (szR x.bulk left = -1) := szR_no (by omega)
      clear hbu
      have X0q := X0
      obtain ⟨a0, a1, a2, a3, a4⟩ := X0q
      go_enter Try.func48, Try.ntmps48
      go_wp2_with fail
      rw [← hW1]
      clear hW1 a0 a1 a2 a3 a4
      refine (szBdL_any x.A0 x.c0 x.l0 B _ left hc0 h0 h1 hz.a (by omega)).mono ?_
      rintro e w1 ⟨rfl, hb1⟩
      have y1 := hb1.size
      have X1 := X0.below hb1 (by omega)
      have b1 := B1.trans (hb1.mono (by omega))
      have hz1 := hin.below (b1.mono hB)
      clear hb1 X0 B1 hz
      rw [szR_yes (by omega)]
      have n0 : ¬ (left - (Bd.bulkL x.l0 : Int) < 0) := by omega
      have X0q := X1
      obtain ⟨a0, a1, a2, a3, a4⟩ := X0q
      go_wp2_with fail
      clear a0 a1 a2 a3 a4
      refine (szRuL_any x.A1 x.c1 x.l1 B _ (left - (Bd.bulkL x.l0 : Int)) hc1 (by omega) (by omega) hz1.b (by omega)).mono ?_
      rintro e w2 ⟨rfl, hb2⟩
      have b2 := b1.trans (hb2.mono (by omega))
      clear hb2 X1 hz1
      rw [szR_no (by omega)]
      go_wp2_with fail
      go_ret
      exact ⟨ret_int HR.out.symm, b2⟩
  · skip
    have HR : Hid (szR x.bulk left = -1) := szR_no (by omega)
    clear hbu
    have X0q := X0
    obtain ⟨a0, a1, a2, a3, a4⟩ := X0q
    go_enter Try.func48, Try.ntmps48
    go_wp2_with fail
    rw [← hW1]
    clear hW1 a0 a1 a2 a3 a4
    refine (szBdL_any x.A0 x.c0 x.l0 B _ left hc0 h0 h1 hz.a (by omega)).mono ?_
    rintro e w1 ⟨rfl, hb1⟩
    have y1 := hb1.size
    have X1 := X0.below hb1 (by omega)
    have b1 := B1.trans (hb1.mono (by omega))
    have hz1 := hin.below (b1.mono hB)
    clear hb1 X0 B1 hz
    rw [szR_no (by omega)]
    go_wp2_with fail
    go_ret
    exact ⟨ret_int HR.out.symm, b1⟩

set_option maxRecDepth 100000 in
set_option maxHeartbeats 8000000 in
theorem toEx_any (x : Ex) (B : Nat) (w : World) (hs : x.bulk ≤ 2000000) (hin : x.In w B) (hB : B ≤ w.heap.size) :
    Calls Try.prog 51 #[x.val] w fun e w' => ∃ d : Ex, e = .returned d.val ∧ d.er = x.er ∧ Ex.Own w.heap.size w'.heap.size w' d ∧ Below w.heap.size w w' := by
  have hb0 : Bd.bulkL x.l0 ≤ 2000000 := by unfold Ex.bulk at hs; omega
  have hb1 : Ru.bulkR x.l1 ≤ 2000000 := by unfold Ex.bulk at hs; omega
  obtain ⟨W1, hW1⟩ : ∃ W1, W1 = w.alloc (.cells #[.slice x.A0 x.l0.length x.c0, .slice x.A1 x.l1.length x.c1, .int .i64 x.s, .int .i64 x.v, .int .i64 x.t] 40) := ⟨_, rfl⟩
  obtain ⟨W2, hW2⟩ : ∃ W2, W2 = W1.alloc (.cells #[.slice none 0 0, .slice none 0 0, .int .i64 0, .int .i64 0, .int .i64 0] 52) := ⟨_, rfl⟩
  obtain ⟨W3, hW3⟩ : ∃ W3, W3 = W2.alloc (.cells #[.slice none 0 0, .slice none 0 0, .int .i64 0, .int .i64 0, .int .i64 0] 52) := ⟨_, rfl⟩
  have z1 : W1.heap.size = w.heap.size + 1 := by rw [hW1]; simp
  have z2 : W2.heap.size = w.heap.size + 1 + 1 := by rw [hW2]; simp [z1]
  have z3 : W3.heap.size = w.heap.size + 1 + 1 + 1 := by rw [hW3]; simp [z2]
  have B1 : Below w.heap.size w W1 := by rw [hW1]; exact (Below.refl _ _).alloc (Nat.le_refl _) _
  have B2 : Below W1.heap.size W1 W2 := by rw [hW2]; exact (Below.refl _ _).alloc (Nat.le_refl _) _
  have B3 : Below W2.heap.size W2 W3 := by rw [hW3]; exact (Below.refl _ _).alloc (Nat.le_refl _) _
  have X0 : Ex.Box W1 w.heap.size x := by rw [hW1]; exact Ex.Box.new _ _ _
  have X0 := (X0.below B2 (by omega)).below B3 (by omega)
  have R0 : D.Blk W2 (w.heap.size + 1) 52 #[.slice none 0 0, .slice none 0 0, .int .i64 0, .int .i64 0, .int .i64 0] := by rw [hW2, ← z1]; exact D.Blk.new _ _ _
  have R0 := R0.below B3 (by omega)
  have O0 : D.Blk W3 (w.heap.size + 1 + 1) 52 #[.slice none 0 0, .slice none 0 0, .int .i64 0, .int .i64 0, .int .i64 0] := by rw [hW3, ← z2]; exact D.Blk.new _ _ _
  have b0 : Below w.heap.size w W3 := (B1.trans (B2.mono (by omega))).trans (B3.mono (by omega))
  have y3 : w.heap.size + 3 ≤ W3.heap.size := by omega
  have i0 := hin.below (b0.mono hB)
  unfold Ex.val
  have X0q := X0
  obtain ⟨a0, a1, a2, a3, a4⟩ := X0q
  go_enter Try.func51, Try.ntmps51
  go_wp2_with fail
  rw [← hW1, ← hW2, ← hW3]
  clear hW1 hW2 hW3 B1 B2 B3 z1 z2 z3 a0 a1 a2 a3 a4
  refine (toBdL_any x.A0 x.c0 x.l0 B _ hb0 i0.a (by omega)).mono ?_
  rintro e v0 ⟨D0, d0, m0, rfl, he0, ho0, hq0⟩
  have zv0 := hq0.size
  have HE0 := Lib.hid he0
  have X0v := X0.below hq0 (by omega)
  have R0v := R0.below hq0 (by omega)
  have O0v := O0.below hq0 (by omega)
  have bv0 := b0.trans (hq0.mono (by omega))
  have P0 : Bd.E.LOwn (w.heap.size + 3) v0.heap.size v0 D0 d0 m0 := ho0.wide (by omega) (Nat.le_refl _)
  clear he0 ho0 hq0 X0 R0 O0 b0 i0
  have f0 := O0v.frozen 0
  have c0 : World.cell? v0 ⟨w.heap.size + 1 + 1, 0, none⟩ = some (.slice none 0 0) := O0v.cell 0
  have X0q := X0v
  obtain ⟨a0, a1, a2, a3, a4⟩ := X0q
  go_wp2_with fail
  obtain ⟨U1, hU1⟩ : ∃ U, U = v0.setCell ⟨w.heap.size + 1 + 1, 0, none⟩ (.slice D0 m0.length d0) := ⟨_, rfl⟩
  rw [← hU1]
  have O1 : D.Blk U1 (w.heap.size + 1 + 1) 52 #[.slice D0 m0.length d0, .slice none 0 0, .int .i64 0, .int .i64 0, .int .i64 0] := by rw [hU1]; have := O0v.set_ 0 (.slice D0 m0.length d0); simpa using this
  have R1 : D.Blk U1 (w.heap.size + 1) 52 #[.slice none 0 0, .slice none 0 0, .int .i64 0, .int .i64 0, .int .i64 0] := by rw [hU1]; exact Ru.blk_far R0v (by simp) _
  have X1 : Ex.Box U1 w.heap.size x := by rw [hU1]; exact X0v.keep (Below.heap_setCell _ _ _ _ (by simp; omega))
  have b1 : Below w.heap.size w U1 := by rw [hU1]; exact bv0.setCell (by simp; omega) _
  have y1 : U1.heap.size = v0.heap.size := by rw [hU1]; simp
  have P0 : Bd.E.LOwn (w.heap.size + 3) U1.heap.size U1 D0 d0 m0 := by rw [y1, hU1]; exact P0.far (by simp) _
  have i1 := hin.below (b1.mono hB)
  have yl1 : v0.heap.size ≤ U1.heap.size := by omega
  clear hU1 O0v R0v X0v bv0 f0 c0 a0 a1 a2 a3 a4 y1
  refine (toRuL_any x.A1 x.c1 x.l1 B _ hb1 i1.b (by omega)).mono ?_
  rintro e v1 ⟨D1, d1, m1, rfl, he1, ho1, hq1⟩
  have zv1 := hq1.size
  have HE1 := Lib.hid he1
  have nab : ∀ k ∈ Bd.E.lblks D0 m0, k ∉ Ru.E.lblks D1 m1 := fun k h0 h1 => by have := P0.inn.blk_lt k h0; have := ho1.lo_ k h1; omega
  have P0 : Bd.E.LOwn (w.heap.size + 3) v1.heap.size v1 D0 d0 m0 := (P0.below hq1).wide (Nat.le_refl _) zv1
  have P1 : Ru.E.LOwn (w.heap.size + 3) v1.heap.size v1 D1 d1 m1 := ho1.wide (by omega) (Nat.le_refl _)
  have X1v := X1.below hq1 (by omega)
  have R1v := R1.below hq1 (by omega)
  have O1v := O1.below hq1 (by omega)
  have bv1 := b1.trans (hq1.mono (by omega))
  clear he1 ho1 hq1 X1 R1 O1 b1 i1
  have PP : Hid (Ex.Own (w.heap.size + 3) v1.heap.size v1 ⟨D0, d0, m0, D1, d1, m1, x.s, x.v, x.t⟩) := ⟨P0, P1, nab⟩
  clear P0 P1 nab
  have c0 : World.cell? v1 ⟨w.heap.size + 1 + 1, 0, none⟩ = some (.slice D0 m0.length d0) := O1v.cell 0
  have c1 : World.cell? v1 ⟨w.heap.size + 1 + 1, 1, none⟩ = some (.slice none 0 0) := O1v.cell 1
  have c2 : World.cell? v1 ⟨w.heap.size + 1 + 1, 2, none⟩ = some (.int .i64 0) := O1v.cell 2
  have c3 : World.cell? v1 ⟨w.heap.size + 1 + 1, 3, none⟩ = some (.int .i64 0) := O1v.cell 3
  have c4 : World.cell? v1 ⟨w.heap.size + 1 + 1, 4, none⟩ = some (.int .i64 0) := O1v.cell 4
  have f1 := O1v.frozen 1
  have f2 := O1v.frozen 2
  have f3 := O1v.frozen 3
  have f4 := O1v.frozen 4
  have r0 : World.cell? v1 ⟨w.heap.size + 1, 0, none⟩ = some (.slice none 0 0) := R1v.cell 0
  have g0 := R1v.frozen 0
  have r1 : World.cell? v1 ⟨w.heap.size + 1, 1, none⟩ = some (.slice none 0 0) := R1v.cell 1
  have g1 := R1v.frozen 1
  have r2 : World.cell? v1 ⟨w.heap.size + 1, 2, none⟩ = some (.int .i64 0) := R1v.cell 2
  have g2 := R1v.frozen 2
  have r3 : World.cell? v1 ⟨w.heap.size + 1, 3, none⟩ = some (.int .i64 0) := R1v.cell 3
  have g3 := R1v.frozen 3
  have r4 : World.cell? v1 ⟨w.heap.size + 1, 4, none⟩ = some (.int .i64 0) := R1v.cell 4
  have g4 := R1v.frozen 4
  clear O1v R1v
  have X0q := X1v
  obtain ⟨a0, a1, a2, a3, a4⟩ := X0q
  go_wp2_with fail
  refine bodyPost_ret (v := .agg #[.slice D0 m0.length d0, .slice D1 m1.length d1, .int .i64 x.s, .int .i64 x.v, .int .i64 x.t]) (by simp [results, Try.results51, go_sem, r0, r1, r2, r3, r4]) rfl ⟨⟨D0, d0, m0, D1, d1, m1, x.s, x.v, x.t⟩, rfl, ?_, ?_, ?_⟩
  · show ((Bd.erL m0, Ru.erR m1), _) = _
    rw [HE0.out, HE1.out]; rfl
  · simp only [World.size_setCell]
    exact ((((((((((PP.out.far (by simp <;> omega) _).far (by simp <;> omega) _).far (by simp <;> omega) _).far (by simp <;> omega) _).far (by simp <;> omega) _).far (by simp <;> omega) _).far (by simp <;> omega) _).far (by simp <;> omega) _).far (by simp <;> omega) _).wide (by omega) (Nat.le_refl _))
  · exact (((((((((bv1.setCell (by simp <;> omega) _).setCell (by simp <;> omega) _).setCell (by simp <;> omega) _).setCell (by simp <;> omega) _).setCell (by simp <;> omega) _).setCell (by simp <;> omega) _).setCell (by simp <;> omega) _).setCell (by simp <;> omega) _).setCell (by simp <;> omega) _)

set_option maxRecDepth 100000 in
set_option maxHeartbeats 4000000 in
theorem eqEx_any (x y : Ex) (B : Nat) (w : World) (he : x.er = y.er) (hx : x.In w B) (hy : y.In w B) (hB : B ≤ w.heap.size) :
    Calls Try.prog 54 #[x.val, y.val] w fun e w' => e = .returned (.bool true) ∧ Below w.heap.size w w' := by
  obtain ⟨E0, E1, e2, e3, e4⟩ := Ex.er_parts he
  have n2 : (x.s != y.s) = false := by simp [e2]
  have n3 : (x.v != y.v) = false := by simp [e3]
  have n4 : (x.t != y.t) = false := by simp [e4]
  have H0 := Lib.hid E0
  have H1 := Lib.hid E1
  clear E0 E1 e2 e3 e4 he
  have hax := hx.a.cap
  have hbx := hx.b.cap
  have hay := hy.a.cap
  have hby := hy.b.cap
  obtain ⟨W1, hW1⟩ : ∃ W1, W1 = w.alloc (.cells #[.slice x.A0 x.l0.length x.c0, .slice x.A1 x.l1.length x.c1, .int .i64 x.s, .int .i64 x.v, .int .i64 x.t] 52) := ⟨_, rfl⟩
  obtain ⟨W2, hW2⟩ : ∃ W2, W2 = W1.alloc (.cells #[.slice y.A0 y.l0.length y.c0, .slice y.A1 y.l1.length y.c1, .int .i64 y.s, .int .i64 y.v, .int .i64 y.t] 52) := ⟨_, rfl⟩
  have z1 : W1.heap.size = w.heap.size + 1 := by rw [hW1]; simp
  have z2 : W2.heap.size = w.heap.size + 1 + 1 := by rw [hW2]; simp [z1]
  have B1 : Below w.heap.size w W1 := by rw [hW1]; exact (Below.refl _ _).alloc (Nat.le_refl _) _
  have B2 : Below W1.heap.size W1 W2 := by rw [hW2]; exact (Below.refl _ _).alloc (Nat.le_refl _) _
  have X0 : Ex.Box W1 w.heap.size x := by rw [hW1]; exact Ex.Box.new _ _ _
  have X0 := X0.below B2 (by omega)
  have Y0 : Ex.Box W2 (w.heap.size + 1) y := by rw [hW2, ← z1]; exact Ex.Box.new _ _ _
  have b0 := B1.trans (B2.mono (by omega))
  have ix := hx.below (b0.mono hB)
  have iy := hy.below (b0.mono hB)
  unfold Ex.val
  have X0q := X0
  obtain ⟨a0, a1, a2, a3, a4⟩ := X0q
  have Y0q := Y0
  obtain ⟨c0, c1, c2, c3, c4⟩ := Y0q
  go_enter Try.func54, Try.ntmps54
  go_wp2_with fail
  rw [← hW1, ← hW2]
  clear hW1 hW2 B1 B2 a0 a1 a2 a3 a4 c0 c1 c2 c3 c4
  refine (eqBdL_any x.A0 x.c0 x.l0 y.A0 y.c0 y.l0 B _ H0.out ix.a iy.a (by omega)).mono ?_
  rintro e v1 ⟨rfl, hb1⟩
  have y1 := hb1.size
  have X1 := X0.below hb1 (by omega)
  have Y1 := Y0.below hb1 (by omega)
  have b1 := b0.trans (hb1.mono (by omega))
  have ix := hx.below (b1.mono hB)
  have iy := hy.below (b1.mono hB)
  clear hb1 X0 Y0 b0
  have Xq := X1
  obtain ⟨a0, a1, a2, a3, a4⟩ := Xq
  have Yq := Y1
  obtain ⟨c0, c1, c2, c3, c4⟩ := Yq
  have la : w.heap.size < v1.heap.size := by omega
  have lb : w.heap.size + 1 < v1.heap.size := by omega
  go_wp2_with fail
  clear a0 a1 a2 a3 a4 c0 c1 c2 c3 c4 la lb
  refine (eqRuL_any x.A1 x.c1 x.l1 y.A1 y.c1 y.l1 B _ H1.out ix.b iy.b (by omega)).mono ?_
  rintro e v2 ⟨rfl, hb2⟩
  have y2 := hb2.size
  have X2 := X1.below hb2 (by omega)
  have Y2 := Y1.below hb2 (by omega)
  have b2 := b1.trans (hb2.mono (by omega))
  have ix := hx.below (b2.mono hB)
  have iy := hy.below (b2.mono hB)
  clear hb2 X1 Y1 b1
  have Xq := X2
  obtain ⟨a0, a1, a2, a3, a4⟩ := Xq
  have Yq := Y2
  obtain ⟨c0, c1, c2, c3, c4⟩ := Yq
  have la : w.heap.size < v2.heap.size := by omega
  have lb : w.heap.size + 1 < v2.heap.size := by omega
  go_wp2_with fail
  clear a0 a1 a2 a3 a4 c0 c1 c2 c3 c4 la lb
  go_ret
  exact ⟨rfl, b2⟩
end Go.Proofs.Ytndckeodpoommaa
