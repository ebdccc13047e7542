/-
  Instr: what it is and where it lies (written by gen/rec.py).
-/
import Derived.Test.YtpigpncbjckbcaaRecB
import Derived.Test.YtpigpncbjckbcaaKoBase
import Derived.Test.YtpigpncbjckbcaaTrees
import Derived.Test.YtpigpncbjckbcaaSTrees
import Derived.Deep.DeepCutAuto
import Derived.Deep.RegionHeld3
import Derived.Test.YtpigpncbjckbcaaCopy
namespace Go.Proofs.Ytpigpncbjckbcaa
open Go.RowKit

structure Nt where
  o : Int
  i : Int
  t : D
namespace Nt
def cells (x : Nt) : List Value := [.int .i64 x.o, .int .i64 x.i, .int .i64 x.t.k, .int .i64 x.t.n, .string x.t.t, .slice x.t.A x.t.l.length x.t.c]
structure In (w : World) (B : Nat) (x : Nt) : Prop where
  t : x.t.In w B
def blks (x : Nt) : List Nat := D.blks x.t
def E : Elem Nt where
  cells := cells
  n := 6
  pos := by decide
  len := fun _ => rfl
  one := by
    intro b u hu
    simp only [cells, List.mem_cons, List.not_mem_nil, or_false] at hu
    rcases hu with rfl | rfl | rfl | rfl | rfl | rfl <;> rfl
  In := In
  blks := blks
  lt := fun h b hb => h.t.blk_lt b hb
  keepB := fun h hk => ⟨h.t.keepH fun k hm => hk k hm⟩
  more := fun h hB => ⟨h.t.more hB⟩
theorem E_n : E.n = 6 := rfl
theorem E_in {w : World} {B : Nat} {d : Nt} (h : E.In w B d) : In w B d := h
theorem E_mk {w : World} {B : Nat} {d : Nt} (h : In w B d) : E.In w B d := h
abbrev Er := (Int) × (Int) × (D)
def er (x : Nt) : Er := (x.o, x.i, x.t.er)
def bulk (x : Nt) : Nat := x.t.bulk
def val (d : Nt) : Value := .agg #[.int .i64 d.o, .int .i64 d.i, .int .i64 d.t.k, .int .i64 d.t.n, .string d.t.t, .slice d.t.A d.t.l.length d.t.c]
theorem er_parts {x y : Nt} (h : er x = er y) : x.o = y.o ∧ x.i = y.i ∧ x.t.er = y.t.er := by
  unfold er at h
  obtain ⟨a0, h⟩ := Prod.mk.inj h
  obtain ⟨a1, h⟩ := Prod.mk.inj h
  exact ⟨a0, a1, h⟩
theorem bulk_of_er {x y : Nt} (h : er x = er y) : bulk x = bulk y := by
  obtain ⟨e_o, e_i, e_t⟩ := er_parts h
  unfold bulk
  rw [D.bulk_of_er e_t]
theorem own_of {l0 l1 : Nat} {w : World} {x : Nt} (h_t : x.t.Own l0 l1 w) (h0 : l0 ≤ l1)  : E.Own l0 l1 w x := by
  refine ⟨⟨h_t.inn⟩, fun k hk => ?_, ?_, fun k hk o => ?_⟩
  · have := h_t.lo_ k hk; omega
  · exact h_t.nd
  · exact h_t.fr k hk o
/-- The cells of element i. -/
theorem at_ {w : World} {B : Nat} {A : Option Addr} {c : Nat} {l : List Nt} (h : E.LIn w B A c l) {i : Nat} {x : Nt} (hi : l[i]? = some x) :
    ∃ b o : Nat, A = some ⟨b, o, none⟩ ∧ b < B ∧ w.cell? ⟨b, o + i * 6, none⟩ = some (.int .i64 x.o) ∧ w.cell? ⟨b, o + i * 6 + 1, none⟩ = some (.int .i64 x.i) ∧ w.cell? ⟨b, o + i * 6 + 2, none⟩ = some (.int .i64 x.t.k) ∧ w.cell? ⟨b, o + i * 6 + 3, none⟩ = some (.int .i64 x.t.n) ∧ w.cell? ⟨b, o + i * 6 + 4, none⟩ = some (.string x.t.t) ∧ w.cell? ⟨b, o + i * 6 + 5, none⟩ = some (.slice x.t.A x.t.l.length x.t.c) ∧ E.In w B x := by
  obtain ⟨b, o, e, hb, hc, hx⟩ := h.at_ hi
  exact ⟨b, o, e, hb, hc 0 _ rfl, hc 1 _ rfl, hc 2 _ rfl, hc 3 _ rfl, hc 4 _ rfl, hc 5 _ rfl, hx⟩
/-- A variable that holds one. -/
structure Box (w : World) (g : Nat) (d : Nt) : Prop where
  c0 : w.cell? ⟨g, 0, none⟩ = some (.int .i64 d.o)
  c1 : w.cell? ⟨g, 1, none⟩ = some (.int .i64 d.i)
  c2 : w.cell? ⟨g, 2, none⟩ = some (.int .i64 d.t.k)
  c3 : w.cell? ⟨g, 3, none⟩ = some (.int .i64 d.t.n)
  c4 : w.cell? ⟨g, 4, none⟩ = some (.string d.t.t)
  c5 : w.cell? ⟨g, 5, none⟩ = some (.slice d.t.A d.t.l.length d.t.c)
theorem Box.keep {w w' : World} {g : Nat} {d : Nt} (h : Box w g d) (e : w'.heap[g]? = w.heap[g]?) : Box w' g d := by
  have e : ∀ q, w'.cell? ⟨g, q, none⟩ = w.cell? ⟨g, q, none⟩ := fun q => World.cell?_of_block (a := ⟨g, q, none⟩) e
  exact ⟨(e 0).trans h.c0, (e 1).trans h.c1, (e 2).trans h.c2, (e 3).trans h.c3, (e 4).trans h.c4, (e 5).trans h.c5⟩
theorem Box.below {w w' : World} {g B : Nat} {d : Nt} (h : Box w g d) (hb : Below B w w') (hB : g < B) : Box w' g d := h.keep (hb.block g hB)
theorem Box.chg {w w' : World} {g : Nat} {d : Nt} {T : List Nat} (h : Box w g d) (hb : Chg T w w') (hlt : g < w.heap.size) (hn : g ∉ T) : Box w' g d := h.keep (hb.block g hlt hn)
theorem Box.new (w : World) (d : Nt) (t : TypeId) : Box (w.alloc (.cells #[.int .i64 d.o, .int .i64 d.i, .int .i64 d.t.k, .int .i64 d.t.n, .string d.t.t, .slice d.t.A d.t.l.length d.t.c] t)) w.heap.size d := by
  have h := D.Blk.new w t #[.int .i64 d.o, .int .i64 d.i, .int .i64 d.t.k, .int .i64 d.t.n, .string d.t.t, .slice d.t.A d.t.l.length d.t.c]
  exact ⟨h.cell 0, h.cell 1, h.cell 2, h.cell 3, h.cell 4, h.cell 5⟩
end Nt

/-- Returned: one of the call's own. -/
def RetNt (x : Nt.Er) (w : World) (e : Ending) (w' : World) : Prop := ∃ d : Nt, e = .returned (Nt.val d) ∧ Nt.er d = x ∧ Nt.E.Own w.heap.size w'.heap.size w' d ∧ Below w.heap.size w w'
/-- Returned: a list of the call's own. -/
def RetNtL (x : List Nt.Er) (w : World) (e : Ending) (w' : World) : Prop := ∃ (A : Option Addr) (c : Nat) (l : List Nt), e = .returned (.slice A l.length c) ∧ l.map Nt.er = x ∧ Nt.E.LOwn w.heap.size w'.heap.size w' A c l ∧ Below w.heap.size w w'
end Go.Proofs.Ytpigpncbjckbcaa

namespace Go.Proofs.Ytpigpncbjckbcaa
open Go.RowKit

set_option maxRecDepth 100000 in
set_option maxHeartbeats 4000000 in
theorem Nt_sz_any (d : Nt) (B : Nat) (w : World) (left : Int) (h0 : 0 ≤ left) (h1 : left ≤ 1048576) (hin : Nt.E.In w B d) (hB : B ≤ w.heap.size) :
    Calls Try.prog 74 #[Nt.val d, .int .i64 left] w fun e w' => e = .returned (.int .i64 (szR (d.bulk) left)) ∧ Below w.heap.size w w' := by
  have h_d := Elem.In.more hin hB
  have hbu : ((d.bulk : Nat) : Int) = (d.t.bulk : Int) := by unfold Nt.bulk; omega
  unfold Nt.val
  by_cases hz0 : (d.t.bulk : Int) ≤ left
  · skip
    have HR : Hid (szR (d.bulk) left = left - (d.t.bulk : Int)) := by show _ = _; rw [szR_yes (by omega)]; omega
    clear hbu
    have b0 : Below w.heap.size w w := Below.refl _ _
    have i_d := h_d
    go_enter Try.func74, Try.ntmps74
    go_wp2_with fail
    obtain ⟨w1, hw1⟩ : ∃ W, W = w.alloc (.cells #[.int .i64 d.o, .int .i64 d.i, .int .i64 d.t.k, .int .i64 d.t.n, .string d.t.t, .slice d.t.A d.t.l.length d.t.c] 100) := ⟨_, rfl⟩
    rw [← hw1]
    have hb1 : Below w.heap.size w w1 := by rw [hw1]; exact (Below.refl _ _).alloc (Nat.le_refl _) _
    have z1 : w.heap.size + 1 ≤ w1.heap.size := by rw [hw1]; simp
    have y1 : w1.heap.size ≤ w.heap.size + 1 := by rw [hw1]; simp
    have xb : Nt.Box w1 w.heap.size d := by rw [hw1]; exact Nt.Box.new _ _ _
    clear hw1
    have b1 := b0.trans (hb1.mono (by omega))
    have i_d := h_d.below b1
    clear hb1
    have xbq := xb
    obtain ⟨xb_0, xb_1, xb_2, xb_3, xb_4, xb_5⟩ := xbq
    have xblt : w.heap.size < w1.heap.size := (by omega)
    go_wp2_with fail
    clear xb_0 xb_1 xb_2 xb_3 xb_4 xb_5 xblt
    refine (sz_any _ d.t w.heap.size _ (left) (Nat.le_refl _) (by omega) (by omega) (Nt.E_in i_d).t (by omega)).mono ?_
    rintro e w2 ⟨rfl, hb2⟩
    have z2 := hb2.size
    have xb := xb.below hb2 (by omega)
    have b2 := b1.trans (hb2.mono (by omega))
    have i_d := h_d.below b2
    clear hb2
    rw [szR_yes (by omega)]
    have n0 : ¬ (left - (d.t.bulk : Int) < 0) := by omega
    have xbq := xb
    obtain ⟨xb_0, xb_1, xb_2, xb_3, xb_4, xb_5⟩ := xbq
    have xblt : w.heap.size < w2.heap.size := (by omega)
    go_wp2_with fail
    clear xb_0 xb_1 xb_2 xb_3 xb_4 xb_5 xblt
    go_ret
    exact ⟨ret_int HR.out.symm, b2⟩
  · skip
    have HR : Hid (szR (d.bulk) left = -1) := szR_no (by omega)
    clear hbu
    have b0 : Below w.heap.size w w := Below.refl _ _
    have i_d := h_d
    go_enter Try.func74, Try.ntmps74
    go_wp2_with fail
    obtain ⟨w1, hw1⟩ : ∃ W, W = w.alloc (.cells #[.int .i64 d.o, .int .i64 d.i, .int .i64 d.t.k, .int .i64 d.t.n, .string d.t.t, .slice d.t.A d.t.l.length d.t.c] 100) := ⟨_, rfl⟩
    rw [← hw1]
    have hb1 : Below w.heap.size w w1 := by rw [hw1]; exact (Below.refl _ _).alloc (Nat.le_refl _) _
    have z1 : w.heap.size + 1 ≤ w1.heap.size := by rw [hw1]; simp
    have y1 : w1.heap.size ≤ w.heap.size + 1 := by rw [hw1]; simp
    have xb : Nt.Box w1 w.heap.size d := by rw [hw1]; exact Nt.Box.new _ _ _
    clear hw1
    have b1 := b0.trans (hb1.mono (by omega))
    have i_d := h_d.below b1
    clear hb1
    have xbq := xb
    obtain ⟨xb_0, xb_1, xb_2, xb_3, xb_4, xb_5⟩ := xbq
    have xblt : w.heap.size < w1.heap.size := (by omega)
    go_wp2_with fail
    clear xb_0 xb_1 xb_2 xb_3 xb_4 xb_5 xblt
    refine (sz_any _ d.t w.heap.size _ (left) (Nat.le_refl _) (by omega) (by omega) (Nt.E_in i_d).t (by omega)).mono ?_
    rintro e w2 ⟨rfl, hb2⟩
    have z2 := hb2.size
    have xb := xb.below hb2 (by omega)
    have b2 := b1.trans (hb2.mono (by omega))
    have i_d := h_d.below b2
    clear hb2
    rw [szR_no (by omega)]
    have xbq := xb
    obtain ⟨xb_0, xb_1, xb_2, xb_3, xb_4, xb_5⟩ := xbq
    have xblt : w.heap.size < w2.heap.size := (by omega)
    go_wp2_with fail
    clear xb_0 xb_1 xb_2 xb_3 xb_4 xb_5 xblt
    go_ret
    exact ⟨ret_int HR.out.symm, b2⟩
end Go.Proofs.Ytpigpncbjckbcaa

namespace Go.Proofs.Ytpigpncbjckbcaa
open Go.RowKit

set_option maxRecDepth 100000 in
set_option maxHeartbeats 8000000 in
theorem Nt_to_any (x : Nt) (B : Nat) (w : World) (hbk0 : x.bulk ≤ 1500000) (hin : Nt.E.In w B x) (hB : B ≤ w.heap.size) : Calls Try.prog 75 #[Nt.val x] w (RetNt (Nt.er x) w) := by
  have hbk : x.t.bulk ≤ 1500000 := hbk0
  clear hbk0
  obtain ⟨W1, hW1⟩ : ∃ W1, W1 = w.alloc (.cells #[.int .i64 x.o, .int .i64 x.i, .int .i64 x.t.k, .int .i64 x.t.n, .string x.t.t, .slice x.t.A x.t.l.length x.t.c] 100) := ⟨_, rfl⟩
  obtain ⟨W2, hW2⟩ : ∃ W2, W2 = W1.alloc (.cells #[.int .i64 0, .int .i64 0, .int .i64 0, .int .i64 0, .string ⟨#[]⟩, .slice none 0 0] 53) := ⟨_, rfl⟩
  obtain ⟨W3, hW3⟩ : ∃ W3, W3 = W2.alloc (.cells #[.int .i64 x.o, .int .i64 x.i, .int .i64 0, .int .i64 0, .string ⟨#[]⟩, .slice none 0 0] 53) := ⟨_, rfl⟩
  have z1 : W1.heap.size = w.heap.size + 1 := by rw [hW1]; simp
  have z2 : W2.heap.size = w.heap.size + 1 + 1 := by rw [hW2]; simp [z1]
  have z3 : W3.heap.size = w.heap.size + 1 + 1 + 1 := by rw [hW3]; simp [z2]
  have B1 : Below w.heap.size w W1 := by rw [hW1]; exact (Below.refl _ _).alloc (Nat.le_refl _) _
  have B2 : Below W1.heap.size W1 W2 := by rw [hW2]; exact (Below.refl _ _).alloc (Nat.le_refl _) _
  have B3 : Below W2.heap.size W2 W3 := by rw [hW3]; exact (Below.refl _ _).alloc (Nat.le_refl _) _
  have X0 : Nt.Box W1 w.heap.size x := by rw [hW1]; exact Nt.Box.new _ _ _
  have X0 := (X0.below B2 (by omega)).below B3 (by omega)
  have R0 : D.Blk W2 (w.heap.size + 1) 53 #[.int .i64 0, .int .i64 0, .int .i64 0, .int .i64 0, .string ⟨#[]⟩, .slice none 0 0] := by rw [hW2, ← z1]; exact D.Blk.new _ _ _
  have R0 := R0.below B3 (by omega)
  have O0 : D.Blk W3 (w.heap.size + 1 + 1) 53 #[.int .i64 x.o, .int .i64 x.i, .int .i64 0, .int .i64 0, .string ⟨#[]⟩, .slice none 0 0] := by rw [hW3, ← z2]; exact D.Blk.new _ _ _
  have b0 : Below w.heap.size w W3 := (B1.trans (B2.mono (by omega))).trans (B3.mono (by omega))
  have y3 : w.heap.size + 3 ≤ W3.heap.size := by omega
  have i0 := hin.below (b0.mono hB)
  unfold Nt.val
  have X0q := X0
  obtain ⟨a0, a1, a2, a3, a4, a5⟩ := X0q
  go_enter Try.func75, Try.ntmps75
  go_wp2_with fail
  rw [← hW1, ← hW2, ← hW3]
  clear hW1 hW2 hW3 B1 B2 B3 z1 z2 z3 a0 a1 a2 a3 a4 a5
  refine (to_any 2000000 x.t B _ (by have := D.bulk_size (x.t); omega) (by omega) (Nt.E_in i0).t (by omega)).mono ?_
  rintro e v0 ⟨D0, rfl, he0, hod0, hq0⟩
  have zv0 := hq0.size
  have HE0 := Lib.hid he0
  clear he0
  have X0v := X0.below hq0 (by omega)
  have R0v := R0.below hq0 (by omega)
  have O0v := O0.below hq0 (by omega)
  have bv0 := b0.trans (hq0.mono (by omega))
  have P0 := hod0.wide (lo' := w.heap.size + 3) (by omega) (Nat.le_refl v0.heap.size)
  clear hod0
  clear hq0 X0 R0 O0 b0 i0
  have c0 : World.cell? v0 ⟨w.heap.size + 1 + 1, 0, none⟩ = some (.int .i64 x.o) := O0v.cell 0
  have f0 := O0v.frozen 0
  have c1 : World.cell? v0 ⟨w.heap.size + 1 + 1, 1, none⟩ = some (.int .i64 x.i) := O0v.cell 1
  have f1 := O0v.frozen 1
  have c2 : World.cell? v0 ⟨w.heap.size + 1 + 1, 2, none⟩ = some (.int .i64 0) := O0v.cell 2
  have f2 := O0v.frozen 2
  have c3 : World.cell? v0 ⟨w.heap.size + 1 + 1, 3, none⟩ = some (.int .i64 0) := O0v.cell 3
  have f3 := O0v.frozen 3
  have c4 : World.cell? v0 ⟨w.heap.size + 1 + 1, 4, none⟩ = some (.string ⟨#[]⟩) := O0v.cell 4
  have f4 := O0v.frozen 4
  have c5 : World.cell? v0 ⟨w.heap.size + 1 + 1, 5, none⟩ = some (.slice none 0 0) := O0v.cell 5
  have f5 := O0v.frozen 5
  have X0q := X0v
  obtain ⟨a0, a1, a2, a3, a4, a5⟩ := X0q
  simp only [D.val]
  go_upto_region 5 with fail
  obtain ⟨U1, hU1⟩ : ∃ U, U = ((((v0.setCell ⟨w.heap.size + 1 + 1, 2, none⟩ (.int .i64 D0.k)).setCell ⟨w.heap.size + 1 + 1, 3, none⟩ (.int .i64 D0.n)).setCell ⟨w.heap.size + 1 + 1, 4, none⟩ (.string D0.t)).setCell ⟨w.heap.size + 1 + 1, 5, none⟩ (.slice D0.A D0.l.length D0.c)) := ⟨_, rfl⟩
  rw [← hU1]
  have O1 : D.Blk U1 (w.heap.size + 1 + 1) 53 #[.int .i64 x.o, .int .i64 x.i, .int .i64 D0.k, .int .i64 D0.n, .string D0.t, .slice D0.A D0.l.length D0.c] := by rw [hU1]; have := ((((O0v.set_ 2 (.int .i64 D0.k)).set_ 3 (.int .i64 D0.n)).set_ 4 (.string D0.t)).set_ 5 (.slice D0.A D0.l.length D0.c)); simpa using this
  have R1 : D.Blk U1 (w.heap.size + 1) 53 #[.int .i64 0, .int .i64 0, .int .i64 0, .int .i64 0, .string ⟨#[]⟩, .slice none 0 0] := by rw [hU1]; exact (rec_far (rec_far (rec_far (rec_far R0v (by simp) _) (by simp) _) (by simp) _) (by simp) _)
  have b1 : Below w.heap.size w U1 := by rw [hU1]; exact ((((bv0.setCell (by simp; omega) _).setCell (by simp; omega) _).setCell (by simp; omega) _).setCell (by simp; omega) _)
  have y1 : U1.heap.size = v0.heap.size := by rw [hU1]; simp
  have P0 : D.Own (w.heap.size + 3) v0.heap.size U1 D0 := by rw [hU1]; exact ((((P0.far (by simp <;> omega) _).far (by simp <;> omega) _).far (by simp <;> omega) _).far (by simp <;> omega) _)
  have yl1 : v0.heap.size ≤ U1.heap.size := by omega
  have yu1 : U1.heap.size ≤ v0.heap.size := by omega
  clear hU1 O0v R0v X0v bv0 y1 c0 f0 a0 c1 f1 a1 c2 f2 a2 c3 f3 a3 c4 f4 a4 c5 f5 a5
  have c0 : World.cell? U1 ⟨w.heap.size + 1 + 1, 0, none⟩ = some (.int .i64 x.o) := O1.cell 0
  have c1 : World.cell? U1 ⟨w.heap.size + 1 + 1, 1, none⟩ = some (.int .i64 x.i) := O1.cell 1
  have c2 : World.cell? U1 ⟨w.heap.size + 1 + 1, 2, none⟩ = some (.int .i64 D0.k) := O1.cell 2
  have c3 : World.cell? U1 ⟨w.heap.size + 1 + 1, 3, none⟩ = some (.int .i64 D0.n) := O1.cell 3
  have c4 : World.cell? U1 ⟨w.heap.size + 1 + 1, 4, none⟩ = some (.string D0.t) := O1.cell 4
  have c5 : World.cell? U1 ⟨w.heap.size + 1 + 1, 5, none⟩ = some (.slice D0.A D0.l.length D0.c) := O1.cell 5
  have r0 : World.cell? U1 ⟨w.heap.size + 1, 0, none⟩ = some (.int .i64 0) := R1.cell 0
  have g0 := R1.frozen 0
  have r1 : World.cell? U1 ⟨w.heap.size + 1, 1, none⟩ = some (.int .i64 0) := R1.cell 1
  have g1 := R1.frozen 1
  have r2 : World.cell? U1 ⟨w.heap.size + 1, 2, none⟩ = some (.int .i64 0) := R1.cell 2
  have g2 := R1.frozen 2
  have r3 : World.cell? U1 ⟨w.heap.size + 1, 3, none⟩ = some (.int .i64 0) := R1.cell 3
  have g3 := R1.frozen 3
  have r4 : World.cell? U1 ⟨w.heap.size + 1, 4, none⟩ = some (.string ⟨#[]⟩) := R1.cell 4
  have g4 := R1.frozen 4
  have r5 : World.cell? U1 ⟨w.heap.size + 1, 5, none⟩ = some (.slice none 0 0) := R1.cell 5
  have g5 := R1.frozen 5
  have PP : Hid (Nt.E.Own (w.heap.size + 3) v0.heap.size U1 (⟨x.o, x.i, D0⟩ : Nt)) := Nt.own_of (x := (⟨x.o, x.i, D0⟩ : Nt)) P0 (by omega) 
  clear P0 O1 R1
  go_wp2_with fail
  refine bodyPost_ret (v := .agg #[.int .i64 x.o, .int .i64 x.i, .int .i64 D0.k, .int .i64 D0.n, .string D0.t, .slice D0.A D0.l.length D0.c]) (by simp [results, Try.results75, go_sem, r0, r1, r2, r3, r4, r5]) rfl ⟨(⟨x.o, x.i, D0⟩ : Nt), rfl, ?_, ?_, ?_⟩
  · show Nt.er _ = _
    simp only [Nt.er, HE0.out]
  · simp only [World.size_setCell]
    exact ((((((PP.out.far (by simp <;> omega) _).far (by simp <;> omega) _).far (by simp <;> omega) _).far (by simp <;> omega) _).far (by simp <;> omega) _).far (by simp <;> omega) _).wide (by omega) (by omega)
  · exact ((((((b1.setCell (by simp <;> omega) _).setCell (by simp <;> omega) _).setCell (by simp <;> omega) _).setCell (by simp <;> omega) _).setCell (by simp <;> omega) _).setCell (by simp <;> omega) _)
end Go.Proofs.Ytpigpncbjckbcaa

namespace Go.Proofs.Ytpigpncbjckbcaa
open Go.RowKit

set_option maxRecDepth 100000 in
set_option maxHeartbeats 4000000 in
theorem Nt_eq_any (x y : Nt) (B : Nat) (w : World) (he : Nt.er x = Nt.er y) (hx : Nt.E.In w B x) (hy : Nt.E.In w B y) (hB : B ≤ w.heap.size) :
    Calls Try.prog 76 #[Nt.val x, Nt.val y] w fun e w' => e = .returned (.bool true) ∧ Below w.heap.size w w' := by
  have h_x := Elem.In.more hx hB
  have h_y := Elem.In.more hy hB
  obtain ⟨e_o, e_i, e_t⟩ := Nt.er_parts he
  clear he
  have n_o : (x.o != y.o) = false := by rw [e_o]; simp
  clear e_o
  have n_i : (x.i != y.i) = false := by rw [e_i]; simp
  clear e_i
  have Q_t := Lib.hid (show D.eqB x.t y.t = true from D.eqB_of_er e_t)
  clear e_t
  unfold Nt.val
  have b0 : Below w.heap.size w w := Below.refl _ _
  have i_x := h_x
  have i_y := h_y
  go_enter Try.func76, Try.ntmps76
  go_wp2_with fail
  obtain ⟨w2, hw2⟩ : ∃ W, W = (w.alloc (.cells #[.int .i64 x.o, .int .i64 x.i, .int .i64 x.t.k, .int .i64 x.t.n, .string x.t.t, .slice x.t.A x.t.l.length x.t.c] 53)).alloc (.cells #[.int .i64 y.o, .int .i64 y.i, .int .i64 y.t.k, .int .i64 y.t.n, .string y.t.t, .slice y.t.A y.t.l.length y.t.c] 53) := ⟨_, rfl⟩
  rw [← hw2]
  have hb2 : Below w.heap.size w w2 := by rw [hw2]; exact ((Below.refl _ _).alloc (Nat.le_refl _) _).alloc (by simp) _
  have z2 : w.heap.size + 2 ≤ w2.heap.size := by rw [hw2]; simp
  have xa : Nt.Box w2 w.heap.size x := by rw [hw2]; exact (Nt.Box.new w x _).below ((Below.refl (w.heap.size + 1) _).alloc (by simp) _) (by omega)
  have xb : Nt.Box w2 (w.heap.size + 1) y := by rw [hw2]; have := Nt.Box.new (w.alloc (.cells #[.int .i64 x.o, .int .i64 x.i, .int .i64 x.t.k, .int .i64 x.t.n, .string x.t.t, .slice x.t.A x.t.l.length x.t.c] 53)) y 53; simpa using this
  clear hw2
  have b2 := b0.trans (hb2.mono (by omega))
  have i_x := h_x.below b2
  have i_y := h_y.below b2
  clear hb2 b0
  have xaq := xa
  obtain ⟨xa_0, xa_1, xa_2, xa_3, xa_4, xa_5⟩ := xaq
  have xalt : w.heap.size < w2.heap.size := (by omega)
  have xbq := xb
  obtain ⟨xb_0, xb_1, xb_2, xb_3, xb_4, xb_5⟩ := xbq
  have xblt : w.heap.size + 1 < w2.heap.size := (by omega)
  go_wp2_with fail
  clear xa_0 xa_1 xa_2 xa_3 xa_4 xa_5 xalt
  clear xb_0 xb_1 xb_2 xb_3 xb_4 xb_5 xblt
  refine (eq_all x.t.size x.t y.t w.heap.size _ (by omega) (Nt.E_in i_x).t (Nt.E_in i_y).t (by omega)).mono ?_
  rintro e w3 ⟨rfl, hb3⟩
  have z3 := hb3.size
  have xa := xa.below hb3 (by omega)
  have xb := xb.below hb3 (by omega)
  have b3 := b2.trans (hb3.mono (by omega))
  have i_x := h_x.below b3
  have i_y := h_y.below b3
  clear hb3
  rw [Q_t.out]
  have xaq := xa
  obtain ⟨xa_0, xa_1, xa_2, xa_3, xa_4, xa_5⟩ := xaq
  have xalt : w.heap.size < w3.heap.size := (by omega)
  have xbq := xb
  obtain ⟨xb_0, xb_1, xb_2, xb_3, xb_4, xb_5⟩ := xbq
  have xblt : w.heap.size + 1 < w3.heap.size := (by omega)
  go_wp2_with fail
  clear xa_0 xa_1 xa_2 xa_3 xa_4 xa_5 xalt
  clear xb_0 xb_1 xb_2 xb_3 xb_4 xb_5 xblt
  go_ret
  exact ⟨rfl, b3⟩
end Go.Proofs.Ytpigpncbjckbcaa

namespace Go.Proofs.Ytpigpncbjckbcaa
open Go.RowKit

theorem Nt_info : (Try.prog.info? 53).map (fun i => (i.zero, i.size, i.bytes)) = some (some (.agg #[.int .i64 0, .int .i64 0, .int .i64 0, .int .i64 0, .string ⟨#[]⟩, .slice none 0 0]), 6, 72) := by kernel_rfl
set_option maxRecDepth 100000 in
set_option maxHeartbeats 1000000 in
theorem Nt_szL_any (A : Option Addr) (c : Nat) (l : List Nt) (B : Nat) (w : World) (left : Int) (h0 : 0 ≤ left) (hl : left ≤ 1048576) (hin : Nt.E.LIn w B A c l) (hB : B ≤ w.heap.size) :
    Calls Try.prog 58 #[.slice A l.length c, .int .i64 left] w fun e w' => e = .returned (.int .i64 (szR (Row.bulk Nt.bulk l) left)) ∧ Below w.heap.size w w' := by
  have hcap := hin.cap
  by_cases hfit : (l.length : Int) ≤ left
  · have hn : ¬ (left - (l.length : Int) < 0) := by omega
    have hb0 := Row.bulk_take_le Nt.bulk l 0
    go_enter Try.func58, Try.ntmps58
    go_wp2_with fail
    go_loopw [1, 5] (fun lf i wr => ∃ j : Nat, j ≤ l.length ∧ i = .int .i64 j ∧ (Row.bulk Nt.bulk (l.take j) : Int) + (l.length - j : Nat) ≤ left ∧ lf = .int .i64 (left - Row.bulk Nt.bulk (l.take j) - (l.length - j : Nat)) ∧ Below w.heap.size w wr) (fun _ i _ => l.length - (intOf i).toNat)
    case atStart => exact ⟨0, Nat.zero_le _, rfl, by simp [Row.bulk]; omega, by simp [Row.bulk], Below.refl _ _⟩
    case round =>
      obtain ⟨j, hj, rfl, hf, rfl, hb⟩ := hrel
      by_cases hlt : j < l.length
      · obtain ⟨b, o, rfl, hblk, c0, c1, c2, c3, c4, c5, hix⟩ := Nt.at_ (hin.below (hb.mono hB)) (i := j) (x := l[j]) (List.getElem?_eq_getElem hlt)
        have hs2 := hb.size
        have HS : Hid (Row.bulk Nt.bulk (l.take (j + 1)) = Row.bulk Nt.bulk (l.take j) + 1 + (l[j]).bulk) := Row.bulk_take_succ _ l j hlt
        have hle := Row.bulk_take_le Nt.bulk l (j + 1)
        rw [HS.out] at hle
        go_wp2_with fail
        refine (Nt_sz_any l[j] B _ _ (by omega) (by omega) hix (by omega)).mono ?_
        rintro e w1 ⟨rfl, hb1⟩
        by_cases hy : ((l[j]).bulk : Int) ≤ left - Row.bulk Nt.bulk (l.take j) - (l.length - j : Nat)
        · rw [szR_yes hy]
          have hy2 : ¬ (left - (Row.bulk Nt.bulk (l.take j) : Int) - (l.length - j : Nat) - ((l[j]).bulk : Int) < 0) := by omega
          go_wp2_with fail
          go_roundw
          case rel => exact ⟨j + 1, by omega, by go_num, by rw [HS.out]; omega, by rw [HS.out]; go_num, hb.trans (hb1.mono (by omega))⟩
          case measure => simp [intOf]; omega
        · rw [szR_no hy]
          go_wp2_with fail
          go_ret
          exact ⟨ret_int (by rw [szR_no (by omega)]), hb.trans (hb1.mono (by omega))⟩
      · have hj' : j = l.length := by omega
        subst hj'
        go_wp2_with fail
        go_ret
        rw [List.take_length] at *
        exact ⟨ret_int (by rw [szR_yes (by omega)]; omega), hb⟩
  · have hn : left - (l.length : Int) < 0 := by omega
    go_enter Try.func58, Try.ntmps58
    go_wp2_with fail
    go_ret
    have := Row.bulk_take_le Nt.bulk l 0
    exact ⟨ret_int (by rw [szR_no (by omega)]), Below.refl _ _⟩

set_option maxRecDepth 100000 in
set_option maxHeartbeats 2000000 in
theorem Nt_toL_any (A : Option Addr) (c : Nat) (l : List Nt) (B : Nat) (w : World) (hbk : Row.bulk Nt.bulk l ≤ 1500000) (hin : Nt.E.LIn w B A c l) (hB : B ≤ w.heap.size) : Calls Try.prog 59 #[.slice A l.length c] w (RetNtL (l.map Nt.er) w) := by
  have hcap := hin.cap
  have hll := Row.bulk_len Nt.bulk l
  obtain ⟨i0, hi0, hz0, hz1, hz2⟩ := info_parts Nt_info
  have hmk := fun W => run_make_rowN (P := Try.prog) 46 53 i0 _ Try.underlying46 hi0 hz0 .i64 .i64 l.length l.length (Nat.le_refl _) (by rw [hz2]; omega) (by omega) W
  rw [hz1] at hmk
  go_enter Try.func59, Try.ntmps59
  go_wp2_with fail
  go_loopw [4] (fun i wr => ∃ j : Nat, j ≤ l.length ∧ i = .int .i64 j ∧ ∃ ds : List Nt, Hid (ds.map Nt.er = (l.take j).map Nt.er) ∧ ds.length ≤ j ∧ j ≤ ds.length ∧ Nt.E.Fill wr w.heap.size 53 l.length ds ∧ Below w.heap.size w wr) (fun i _ => l.length - (intOf i).toNat)
  case atStart => exact ⟨0, Nat.zero_le _, rfl, [], by simp [Hid], Nat.le_refl _, Nat.le_refl _, Elem.Fill.new w _ (by rw [size_madeCells]; show l.length * 6 = 6 * l.length; omega), (Below.refl _ _).alloc (Nat.le_refl _) _⟩
  case round =>
    obtain ⟨j, hj, rfl, ds, HE, hd1, hd2, hF, hb⟩ := hrel
    by_cases hlt : j < l.length
    · obtain ⟨b, o, rfl, hblk, c0, c1, c2, c3, c4, c5, hix⟩ := Nt.at_ (hin.below (hb.mono hB)) (i := j) (x := l[j]) (List.getElem?_eq_getElem hlt)
      have hs2 := hb.size
      have hbk1 := Row.bulk_mem (f := Nt.bulk) (l := l) (List.getElem_mem hlt)
      have hglt : w.heap.size < wr.heap.size := hF.row.lt
      go_wp2_with fail
      refine (Nt_to_any l[j] B _ (by omega) hix (by omega)).mono ?_
      rintro e w1 ⟨d, rfl, hde, hod, hb1⟩
      have hrow1 := hF.row.below hb1 hglt
      have e4 : Nt.E.n = 6 := rfl
      obtain ⟨v0, hc0⟩ := hrow1.old (i := j * 6) (by rw [e4]; omega)
      have f0 := hrow1.frozen (j * 6)
      obtain ⟨v1, hc1⟩ := hrow1.old (i := j * 6 + 1) (by rw [e4]; omega)
      have f1 := hrow1.frozen (j * 6 + 1)
      obtain ⟨v2, hc2⟩ := hrow1.old (i := j * 6 + 2) (by rw [e4]; omega)
      have f2 := hrow1.frozen (j * 6 + 2)
      obtain ⟨v3, hc3⟩ := hrow1.old (i := j * 6 + 3) (by rw [e4]; omega)
      have f3 := hrow1.frozen (j * 6 + 3)
      obtain ⟨v4, hc4⟩ := hrow1.old (i := j * 6 + 4) (by rw [e4]; omega)
      have f4 := hrow1.frozen (j * 6 + 4)
      obtain ⟨v5, hc5⟩ := hrow1.old (i := j * 6 + 5) (by rw [e4]; omega)
      have f5 := hrow1.frozen (j * 6 + 5)
      have hst := hF.step hb1 hod (by omega)
      have ej : Nt.E.n * ds.length = j * 6 := by rw [e4]; omega
      rw [ej] at hst
      have Hst := Lib.hid hst
      have Hde := Lib.hid hde
      clear hde hst e4 ej hrow1
      simp only [Nt.val]
      go_wp2_with fail
      refine ⟨⟨j + 1, by omega, by go_num, ds ++ [d], ?_, by simp; omega, by simp; omega, Hst.out, ?_⟩, by simp [intOf]; omega⟩
      · show _ = _
        rw [List.take_succ_eq_append_getElem hlt, List.map_append, List.map_append, HE.out]
        simp [Hde.out]
      · exact ((((((hb.trans (hb1.mono (by omega))).setCell (by simp) _).setCell (by simp) _).setCell (by simp) _).setCell (by simp) _).setCell (by simp) _).setCell (by simp) _
    · have hj' : j = l.length := by omega
      have hj'' : ds.length = l.length := by omega
      subst hj'
      have hdone := hF.done hj'' (by omega)
      have HE' := HE.out
      rw [List.take_length] at HE'
      have HR := Lib.hid HE'
      have HL := Lib.hid hj''
      clear hj'' HE'
      go_wp2_with fail
      go_ret
      exact ⟨some ⟨w.heap.size, 0, none⟩, l.length, ds, ret_sl HL.out.symm, HR.out, hdone, hb⟩
end Go.Proofs.Ytpigpncbjckbcaa

namespace Go.Proofs.Ytpigpncbjckbcaa
open Go.RowKit

set_option maxRecDepth 100000 in
set_option maxHeartbeats 4000000 in
theorem Nt_eqL_any (A : Option Addr) (c : Nat) (l : List Nt) (A' : Option Addr) (c' : Nat) (l' : List Nt) (B : Nat) (w : World) (he : l.map Nt.er = l'.map Nt.er) (hin : Nt.E.LIn w B A c l) (hin' : Nt.E.LIn w B A' c' l') (hB : B ≤ w.heap.size) :
    Calls Try.prog 61 #[.slice A l.length c, .slice A' l'.length c'] w fun e w' => e = .returned (.bool true) ∧ Below w.heap.size w w' := by
  have hcap := hin.cap
  have hcap' := hin'.cap
  have hlen : l.length = l'.length := by have := congrArg List.length he; simpa using this
  have hn1 : ((l.length : Int) != (l'.length : Int)) = false := by simp [hlen]
  have hlen1 : l'.length ≤ l.length := by omega
  have hlen2 : l.length ≤ l'.length := by omega
  clear hlen
  have HE := Lib.hid he
  clear he
  go_enter Try.func61, Try.ntmps61
  go_wp2_with fail
  go_loopw [5] (fun i wr => ∃ j : Nat, j ≤ l.length ∧ i = .int .i64 j ∧ Below w.heap.size w wr) (fun i _ => l.length - (intOf i).toNat)
  case atStart => exact ⟨0, Nat.zero_le _, rfl, Below.refl _ _⟩
  case round =>
    obtain ⟨j, hj, rfl, hb⟩ := hrel
    by_cases hlt : j < l.length
    · have hlt' : j < l'.length := by omega
      have hs2 := hb.size
      obtain ⟨b, o, rfl, hblk, c0, c1, c2, c3, c4, c5, hix⟩ := Nt.at_ (hin.below (hb.mono hB)) (i := j) (x := l[j]) (List.getElem?_eq_getElem hlt)
      obtain ⟨b', o', rfl, hblk', c0', c1', c2', c3', c4', c5', hix'⟩ := Nt.at_ (hin'.below (hb.mono hB)) (i := j) (x := l'[j]) (List.getElem?_eq_getElem hlt')
      have g1 : (0 : Int) ≤ (j : Int) := by omega
      have g2 : (j : Int) < (l.length : Int) := by omega
      have g3 : (j : Int) < (l'.length : Int) := by omega
      have heq := Row.er_get HE.out hlt hlt'
      have Heq := Lib.hid heq
      clear heq
      have lc : b < wr.heap.size := by omega
      have ld : b' < wr.heap.size := by omega
      go_wp2_with fail
      first
      | go_region_held3 (fun w' => w'.cell? ⟨b, o + j * 6, none⟩ = some (.int .i64 l[j].o) ∧ w'.cell? ⟨b, o + j * 6 + 1, none⟩ = some (.int .i64 l[j].i) ∧ w'.cell? ⟨b, o + j * 6 + 2, none⟩ = some (.int .i64 l[j].t.k) ∧ w'.cell? ⟨b, o + j * 6 + 3, none⟩ = some (.int .i64 l[j].t.n) ∧ w'.cell? ⟨b, o + j * 6 + 4, none⟩ = some (.string l[j].t.t) ∧ w'.cell? ⟨b, o + j * 6 + 5, none⟩ = some (.slice l[j].t.A l[j].t.l.length l[j].t.c) ∧ w'.cell? ⟨b', o' + j * 6, none⟩ = some (.int .i64 l'[j].o) ∧ w'.cell? ⟨b', o' + j * 6 + 1, none⟩ = some (.int .i64 l'[j].i) ∧ w'.cell? ⟨b', o' + j * 6 + 2, none⟩ = some (.int .i64 l'[j].t.k) ∧ w'.cell? ⟨b', o' + j * 6 + 3, none⟩ = some (.int .i64 l'[j].t.n) ∧ w'.cell? ⟨b', o' + j * 6 + 4, none⟩ = some (.string l'[j].t.t) ∧ w'.cell? ⟨b', o' + j * 6 + 5, none⟩ = some (.slice l'[j].t.A l'[j].t.l.length l'[j].t.c)) (go_keep)
          ((go_at_call 76; refine (Nt_eq_any l[j] l'[j] B _ Heq.out ?_ ?_ ?_).mono ?_; exact Elem.In.drew hix; exact Elem.In.drew hix'; (show B ≤ wr.heap.size); omega; rintro e w1 ⟨rfl, hb1⟩; have hb1 : Below wr.heap.size wr w1 := below_undrew hb1; have a0 := (hb1.cell (p := ⟨b, o + j * 6, none⟩) lc).trans c0; have a1 := (hb1.cell (p := ⟨b, o + j * 6 + 1, none⟩) lc).trans c1; have a2 := (hb1.cell (p := ⟨b, o + j * 6 + 2, none⟩) lc).trans c2; have a3 := (hb1.cell (p := ⟨b, o + j * 6 + 3, none⟩) lc).trans c3; have a4 := (hb1.cell (p := ⟨b, o + j * 6 + 4, none⟩) lc).trans c4; have a5 := (hb1.cell (p := ⟨b, o + j * 6 + 5, none⟩) lc).trans c5; have d0 := (hb1.cell (p := ⟨b', o' + j * 6, none⟩) ld).trans c0'; have d1 := (hb1.cell (p := ⟨b', o' + j * 6 + 1, none⟩) ld).trans c1'; have d2 := (hb1.cell (p := ⟨b', o' + j * 6 + 2, none⟩) ld).trans c2'; have d3 := (hb1.cell (p := ⟨b', o' + j * 6 + 3, none⟩) ld).trans c3'; have d4 := (hb1.cell (p := ⟨b', o' + j * 6 + 4, none⟩) ld).trans c4'; have d5 := (hb1.cell (p := ⟨b', o' + j * 6 + 5, none⟩) ld).trans c5'))
      | fail
      all_goals go_wp2_with fail
      all_goals refine ⟨⟨j + 1, by omega, by go_num, hb.trans (hb1.mono (by omega))⟩, by simp [intOf]; omega⟩
    · have hj' : j = l.length := by omega
      subst hj'
      go_wp2_with fail
      go_ret
      exact ⟨rfl, hb⟩
end Go.Proofs.Ytpigpncbjckbcaa
