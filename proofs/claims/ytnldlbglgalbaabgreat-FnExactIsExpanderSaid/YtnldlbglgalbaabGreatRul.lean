/-
  Records of macro rules: three lists of syntax objects (written by gen/rul.py).
-/
import Derived.Test.YtnldlbglgalbaabGreatSMarks
import Derived.Test.YtnldlbglgalbaabGreatSTrees
import Derived.Test.YtnldlbglgalbaabGreatSEqs
import Derived.Test.YtnldlbglgalbaabGreatSEqi
namespace Go.Proofs.YtnldlbglgalbaabGreat
open Go.RowKit

structure Ru where
  A0 : Option Addr
  c0 : Nat
  l0 : List S
  A1 : Option Addr
  c1 : Nat
  l1 : List S
  A2 : Option Addr
  c2 : Nat
  l2 : List S
namespace Ru
def val (x : Ru) : Value := .agg #[.slice x.A0 x.l0.length x.c0, .slice x.A1 x.l1.length x.c1, .slice x.A2 x.l2.length x.c2]
def er (x : Ru) : List S × List S × List S := (S.erL x.l0, S.erL x.l1, S.erL x.l2)
def bulk (x : Ru) : Nat := S.bulkL x.l0 + S.bulkL x.l1 + S.bulkL x.l2
structure In (w : World) (B : Nat) (x : Ru) : Prop where
  a : (S.itm x.A0 x.c0 x.l0).In w B
  b : (S.itm x.A1 x.c1 x.l1).In w B
  c : (S.itm x.A2 x.c2 x.l2).In w B
structure Own (lo hi : Nat) (w : World) (x : Ru) : Prop where
  a : (S.itm x.A0 x.c0 x.l0).Own lo hi w
  b : (S.itm x.A1 x.c1 x.l1).Own lo hi w
  c : (S.itm x.A2 x.c2 x.l2).Own lo hi w
  ab : ∀ k ∈ S.blks (S.itm x.A0 x.c0 x.l0), k ∉ S.blks (S.itm x.A1 x.c1 x.l1)
  ac : ∀ k ∈ S.blks (S.itm x.A0 x.c0 x.l0), k ∉ S.blks (S.itm x.A2 x.c2 x.l2)
  bc : ∀ k ∈ S.blks (S.itm x.A1 x.c1 x.l1), k ∉ S.blks (S.itm x.A2 x.c2 x.l2)
theorem In.below {w w' : World} {B : Nat} {x : Ru} (h : In w B x) (hb : Below B w w') : In w' B x := ⟨h.a.below hb, h.b.below hb, h.c.below hb⟩
theorem In.more {w : World} {B B' : Nat} {x : Ru} (h : In w B x) (hB : B ≤ B') : In w B' x := ⟨h.a.more hB, h.b.more hB, h.c.more hB⟩
theorem In.drew {w : World} {B : Nat} {x : Ru} (h : In w B x) : In w.drew B x := ⟨h.a.drew, h.b.drew, h.c.drew⟩
theorem Own.inn {lo hi : Nat} {w : World} {x : Ru} (h : Own lo hi w x) : In w hi x := ⟨h.a.inn, h.b.inn, h.c.inn⟩
theorem Own.below {lo hi : Nat} {w w' : World} {x : Ru} (h : Own lo hi w x) (hb : Below hi w w') : Own lo hi w' x := ⟨h.a.below hb, h.b.below hb, h.c.below hb, h.ab, h.ac, h.bc⟩
theorem Own.far {lo hi : Nat} {w : World} {x : Ru} (h : Own lo hi w x) {p : Addr} (hp : p.block < lo) (u : Value) : Own lo hi (w.setCell p u) x := ⟨h.a.far hp u, h.b.far hp u, h.c.far hp u, h.ab, h.ac, h.bc⟩
theorem Own.wide {lo hi lo' hi' : Nat} {w : World} {x : Ru} (h : Own lo hi w x) (h1 : lo' ≤ lo) (h2 : hi ≤ hi') : Own lo' hi' w x := ⟨h.a.wide h1 h2, h.b.wide h1 h2, h.c.wide h1 h2, h.ab, h.ac, h.bc⟩
structure Box (w : World) (g : Nat) (x : Ru) : Prop where
  x0 : w.cell? ⟨g, 0, none⟩ = some (.slice x.A0 x.l0.length x.c0)
  x1 : w.cell? ⟨g, 1, none⟩ = some (.slice x.A1 x.l1.length x.c1)
  x2 : w.cell? ⟨g, 2, none⟩ = some (.slice x.A2 x.l2.length x.c2)
theorem Box.keep {w w' : World} {g : Nat} {x : Ru} (h : Box w g x) (e : w'.heap[g]? = w.heap[g]?) : Box w' g x :=
  ⟨(World.cell?_of_block e).trans h.x0, (World.cell?_of_block e).trans h.x1, (World.cell?_of_block e).trans h.x2⟩
theorem Box.below {w w' : World} {g B : Nat} {x : Ru} (h : Box w g x) (hb : Below B w w') (hB : g < B) : Box w' g x := h.keep (hb.block g hB)
theorem Box.new (w : World) (x : Ru) (t : TypeId) : Box (w.alloc (.cells #[.slice x.A0 x.l0.length x.c0, .slice x.A1 x.l1.length x.c1, .slice x.A2 x.l2.length x.c2] t)) w.heap.size x := by
  have h := D.Blk.new w t #[.slice x.A0 x.l0.length x.c0, .slice x.A1 x.l1.length x.c1, .slice x.A2 x.l2.length x.c2]
  exact ⟨h.cell 0, h.cell 1, h.cell 2⟩
def eqB (x y : Ru) : Bool := S.eqL x.l0 y.l0 && (S.eqL x.l1 y.l1 && S.eqL x.l2 y.l2)
theorem eqL_refl_er {l m : List S} (h : S.erL l = S.erL m) : S.eqL l m = true := by
  have e : S.er (S.itm none 0 l) = S.er (S.itm none 0 m) := by simp only [S.itm, S.er, h]
  have := S.eqB_of_er e
  simp only [S.itm, S.eqB, Bool.and_eq_true] at this
  exact this.2.2.2.2
theorem blk_far {w : World} {g : Nat} {T : TypeId} {cs : Array Value} (h : D.Blk w g T cs) {p : Addr} (hp : g ≠ p.block) (u : Value) : D.Blk (w.setCell p u) g T cs := (Below.heap_setCell _ _ _ _ hp).trans h
end Ru

set_option maxRecDepth 100000 in
set_option maxHeartbeats 4000000 in
theorem szRu_any (x : Ru) (B : Nat) (w : World) (left : Int) (h0 : 0 ≤ left) (h1 : left ≤ 1048576) (hin : x.In w B) (hB : B ≤ w.heap.size) :
    Calls Tryz.prog 6 #[x.val, .int .i64 left] w fun e w' => e = .returned (.int .i64 (szR x.bulk left)) ∧ Below w.heap.size w w' := by
  have h_x := hin.more hB
  have hbu : (x.bulk : Int) = (S.bulkL x.l0 : Int) + (S.bulkL x.l1 : Int) + (S.bulkL x.l2 : Int) := by unfold Ru.bulk; omega
  unfold Ru.val
  by_cases hz0 : (S.bulkL x.l0 : Int) ≤ left
  · skip
    by_cases hz1 : (S.bulkL x.l1 : Int) ≤ left - (S.bulkL x.l0 : Int)
    · skip
      by_cases hz2 : (S.bulkL x.l2 : Int) ≤ left - (S.bulkL x.l0 : Int) - (S.bulkL x.l1 : Int)
      · skip
        have HR : Hid (szR x.bulk left = left - (S.bulkL x.l0 : Int) - (S.bulkL x.l1 : Int) - (S.bulkL x.l2 : Int)) := by show _ = _; rw [szR_yes (by omega)]; omega
        clear hbu
        have b0 : Below w.heap.size w w := Below.refl _ _
        have i_x := h_x
        go_enter Tryz.func6, Tryz.ntmps6
        go_wp2_with fail
        obtain ⟨w1, hw1⟩ : ∃ W, W = w.alloc (.cells #[.slice x.A0 x.l0.length x.c0, .slice x.A1 x.l1.length x.c1, .slice x.A2 x.l2.length x.c2] 24) := ⟨_, rfl⟩
        rw [← hw1]
        have hb1 : Below w.heap.size w w1 := by rw [hw1]; exact (Below.refl _ _).alloc (Nat.le_refl _) _
        have z1 : w.heap.size + 1 ≤ w1.heap.size := by rw [hw1]; simp
        have y1 : w1.heap.size ≤ w.heap.size + 1 := by rw [hw1]; simp
        have xb : Ru.Box w1 w.heap.size x := by rw [hw1]; exact Ru.Box.new _ _ _
        clear hw1
        have b1 := b0.trans (hb1.mono (by omega))
        have i_x := h_x.below b1
        clear hb1
        have xbq := xb
        obtain ⟨xb_0, xb_1, xb_2⟩ := xbq
        have xblt : w.heap.size < w1.heap.size := (by omega)
        go_wp2_with fail
        clear xb_0 xb_1 xb_2 xblt
        refine (sszL_step _ (ssz_any _) 0 0 ⟨#[]⟩ none 0 [] x.A0 x.c0 x.l0 w.heap.size _ (left) (Nat.le_refl _) (by omega) (by omega) i_x.a (by omega)).mono ?_
        rintro e w2 ⟨rfl, hb2⟩
        have z2 := hb2.size
        have xb := xb.below hb2 (by omega)
        have b2 := b1.trans (hb2.mono (by omega))
        have i_x := h_x.below b2
        clear hb2
        rw [szR_yes (by omega)]
        have n0 : ¬ (left - (S.bulkL x.l0 : Int) < 0) := by omega
        have xbq := xb
        obtain ⟨xb_0, xb_1, xb_2⟩ := xbq
        have xblt : w.heap.size < w2.heap.size := (by omega)
        go_wp2_with fail
        clear xb_0 xb_1 xb_2 xblt
        refine (sszL_step _ (ssz_any _) 0 0 ⟨#[]⟩ none 0 [] x.A1 x.c1 x.l1 w.heap.size _ (left - (S.bulkL x.l0 : Int)) (Nat.le_refl _) (by omega) (by omega) i_x.b (by omega)).mono ?_
        rintro e w3 ⟨rfl, hb3⟩
        have z3 := hb3.size
        have xb := xb.below hb3 (by omega)
        have b3 := b2.trans (hb3.mono (by omega))
        have i_x := h_x.below b3
        clear hb3
        rw [szR_yes (by omega)]
        have n1 : ¬ (left - (S.bulkL x.l0 : Int) - (S.bulkL x.l1 : Int) < 0) := by omega
        have xbq := xb
        obtain ⟨xb_0, xb_1, xb_2⟩ := xbq
        have xblt : w.heap.size < w3.heap.size := (by omega)
        go_wp2_with fail
        clear xb_0 xb_1 xb_2 xblt
        refine (sszL_step _ (ssz_any _) 0 0 ⟨#[]⟩ none 0 [] x.A2 x.c2 x.l2 w.heap.size _ (left - (S.bulkL x.l0 : Int) - (S.bulkL x.l1 : Int)) (Nat.le_refl _) (by omega) (by omega) i_x.c (by omega)).mono ?_
        rintro e w4 ⟨rfl, hb4⟩
        have z4 := hb4.size
        have xb := xb.below hb4 (by omega)
        have b4 := b3.trans (hb4.mono (by omega))
        have i_x := h_x.below b4
        clear hb4
        rw [szR_yes (by omega)]
        have n2 : ¬ (left - (S.bulkL x.l0 : Int) - (S.bulkL x.l1 : Int) - (S.bulkL x.l2 : Int) < 0) := by omega
        have xbq := xb
        obtain ⟨xb_0, xb_1, xb_2⟩ := xbq
        have xblt : w.heap.size < w4.heap.size := (by omega)
        go_wp2_with fail
        clear xb_0 xb_1 xb_2 xblt
        go_ret
        exact ⟨ret_int HR.out.symm, b4⟩
      · skip
        have HR : Hid (szR x.bulk left = -1) := szR_no (by omega)
        clear hbu
        have b0 : Below w.heap.size w w := Below.refl _ _
        have i_x := h_x
        go_enter Tryz.func6, Tryz.ntmps6
        go_wp2_with fail
        obtain ⟨w1, hw1⟩ : ∃ W, W = w.alloc (.cells #[.slice x.A0 x.l0.length x.c0, .slice x.A1 x.l1.length x.c1, .slice x.A2 x.l2.length x.c2] 24) := ⟨_, rfl⟩
        rw [← hw1]
        have hb1 : Below w.heap.size w w1 := by rw [hw1]; exact (Below.refl _ _).alloc (Nat.le_refl _) _
        have z1 : w.heap.size + 1 ≤ w1.heap.size := by rw [hw1]; simp
        have y1 : w1.heap.size ≤ w.heap.size + 1 := by rw [hw1]; simp
        have xb : Ru.Box w1 w.heap.size x := by rw [hw1]; exact Ru.Box.new _ _ _
        clear hw1
        have b1 := b0.trans (hb1.mono (by omega))
        have i_x := h_x.below b1
        clear hb1
        have xbq := xb
        obtain ⟨xb_0, xb_1, xb_2⟩ := xbq
        have xblt : w.heap.size < w1.heap.size := (by omega)
        go_wp2_with fail
        clear xb_0 xb_1 xb_2 xblt
        refine (sszL_step _ (ssz_any _) 0 0 ⟨#[]⟩ none 0 [] x.A0 x.c0 x.l0 w.heap.size _ (left) (Nat.le_refl _) (by omega) (by omega) i_x.a (by omega)).mono ?_
        rintro e w2 ⟨rfl, hb2⟩
        have z2 := hb2.size
        have xb := xb.below hb2 (by omega)
        have b2 := b1.trans (hb2.mono (by omega))
        have i_x := h_x.below b2
        clear hb2
        rw [szR_yes (by omega)]
        have n0 : ¬ (left - (S.bulkL x.l0 : Int) < 0) := by omega
        have xbq := xb
        obtain ⟨xb_0, xb_1, xb_2⟩ := xbq
        have xblt : w.heap.size < w2.heap.size := (by omega)
        go_wp2_with fail
        clear xb_0 xb_1 xb_2 xblt
        refine (sszL_step _ (ssz_any _) 0 0 ⟨#[]⟩ none 0 [] x.A1 x.c1 x.l1 w.heap.size _ (left - (S.bulkL x.l0 : Int)) (Nat.le_refl _) (by omega) (by omega) i_x.b (by omega)).mono ?_
        rintro e w3 ⟨rfl, hb3⟩
        have z3 := hb3.size
        have xb := xb.below hb3 (by omega)
        have b3 := b2.trans (hb3.mono (by omega))
        have i_x := h_x.below b3
        clear hb3
        rw [szR_yes (by omega)]
        have n1 : ¬ (left - (S.bulkL x.l0 : Int) - (S.bulkL x.l1 : Int) < 0) := by omega
        have xbq := xb
        obtain ⟨xb_0, xb_1, xb_2⟩ := xbq
        have xblt : w.heap.size < w3.heap.size := (by omega)
        go_wp2_with fail
        clear xb_0 xb_1 xb_2 xblt
        refine (sszL_step _ (ssz_any _) 0 0 ⟨#[]⟩ none 0 [] x.A2 x.c2 x.l2 w.heap.size _ (left - (S.bulkL x.l0 : Int) - (S.bulkL x.l1 : Int)) (Nat.le_refl _) (by omega) (by omega) i_x.c (by omega)).mono ?_
        rintro e w4 ⟨rfl, hb4⟩
        have z4 := hb4.size
        have xb := xb.below hb4 (by omega)
        have b4 := b3.trans (hb4.mono (by omega))
        have i_x := h_x.below b4
        clear hb4
        rw [szR_no (by omega)]
        have xbq := xb
        obtain ⟨xb_0, xb_1, xb_2⟩ := xbq
        have xblt : w.heap.size < w4.heap.size := (by omega)
        go_wp2_with fail
        clear xb_0 xb_1 xb_2 xblt
        go_ret
        exact ⟨ret_int HR.out.symm, b4⟩
    · skip
      have HR : Hid (szR x.bulk left = -1) := szR_no (by omega)
      clear hbu
      have b0 : Below w.heap.size w w := Below.refl _ _
      have i_x := h_x
      go_enter Tryz.func6, Tryz.ntmps6
      go_wp2_with fail
      obtain ⟨w1, hw1⟩ : ∃ W, W = w.alloc (.cells #[.slice x.A0 x.l0.length x.c0, .slice x.A1 x.l1.length x.c1, .slice x.A2 x.l2.length x.c2] 24) := ⟨_, rfl⟩
      rw [← hw1]
      have hb1 : Below w.heap.size w w1 := by rw [hw1]; exact (Below.refl _ _).alloc (Nat.le_refl _) _
      have z1 : w.heap.size + 1 ≤ w1.heap.size := by rw [hw1]; simp
      have y1 : w1.heap.size ≤ w.heap.size + 1 := by rw [hw1]; simp
      have xb : Ru.Box w1 w.heap.size x := by rw [hw1]; exact Ru.Box.new _ _ _
      clear hw1
      have b1 := b0.trans (hb1.mono (by omega))
      have i_x := h_x.below b1
      clear hb1
      have xbq := xb
      obtain ⟨xb_0, xb_1, xb_2⟩ := xbq
      have xblt : w.heap.size < w1.heap.size := (by omega)
      go_wp2_with fail
      clear xb_0 xb_1 xb_2 xblt
      refine (sszL_step _ (ssz_any _) 0 0 ⟨#[]⟩ none 0 [] x.A0 x.c0 x.l0 w.heap.size _ (left) (Nat.le_refl _) (by omega) (by omega) i_x.a (by omega)).mono ?_
      rintro e w2 ⟨rfl, hb2⟩
      have z2 := hb2.size
      have xb := xb.below hb2 (by omega)
      have b2 := b1.trans (hb2.mono (by omega))
      have i_x := h_x.below b2
      clear hb2
      rw [szR_yes (by omega)]
      have n0 : ¬ (left - (S.bulkL x.l0 : Int) < 0) := by omega
      have xbq := xb
      obtain ⟨xb_0, xb_1, xb_2⟩ := xbq
      have xblt : w.heap.size < w2.heap.size := (by omega)
      go_wp2_with fail
      clear xb_0 xb_1 xb_2 xblt
      refine (sszL_step _ (ssz_any _) 0 0 ⟨#[]⟩ none 0 [] x.A1 x.c1 x.l1 w.heap.size _ (left - (S.bulkL x.l0 : Int)) (Nat.le_refl _) (by omega) (by omega) i_x.b (by omega)).mono ?_
      rintro e w3 ⟨rfl, hb3⟩
      have z3 := hb3.size
      have xb := xb.below hb3 (by omega)
      have b3 := b2.trans (hb3.mono (by omega))
      have i_x := h_x.below b3
      clear hb3
      rw [szR_no (by omega)]
      have xbq := xb
      obtain ⟨xb_0, xb_1, xb_2⟩ := xbq
      have xblt : w.heap.size < w3.heap.size := (by omega)
      go_wp2_with fail
      clear xb_0 xb_1 xb_2 xblt
      go_ret
      exact ⟨ret_int HR.out.symm, b3⟩
  · skip
    have HR : Hid (szR x.bulk left = -1) := szR_no (by omega)
    clear hbu
    have b0 : Below w.heap.size w w := Below.refl _ _
    have i_x := h_x
    go_enter Tryz.func6, Tryz.ntmps6
    go_wp2_with fail
    obtain ⟨w1, hw1⟩ : ∃ W, W = w.alloc (.cells #[.slice x.A0 x.l0.length x.c0, .slice x.A1 x.l1.length x.c1, .slice x.A2 x.l2.length x.c2] 24) := ⟨_, rfl⟩
    rw [← hw1]
    have hb1 : Below w.heap.size w w1 := by rw [hw1]; exact (Below.refl _ _).alloc (Nat.le_refl _) _
    have z1 : w.heap.size + 1 ≤ w1.heap.size := by rw [hw1]; simp
    have y1 : w1.heap.size ≤ w.heap.size + 1 := by rw [hw1]; simp
    have xb : Ru.Box w1 w.heap.size x := by rw [hw1]; exact Ru.Box.new _ _ _
    clear hw1
    have b1 := b0.trans (hb1.mono (by omega))
    have i_x := h_x.below b1
    clear hb1
    have xbq := xb
    obtain ⟨xb_0, xb_1, xb_2⟩ := xbq
    have xblt : w.heap.size < w1.heap.size := (by omega)
    go_wp2_with fail
    clear xb_0 xb_1 xb_2 xblt
    refine (sszL_step _ (ssz_any _) 0 0 ⟨#[]⟩ none 0 [] x.A0 x.c0 x.l0 w.heap.size _ (left) (Nat.le_refl _) (by omega) (by omega) i_x.a (by omega)).mono ?_
    rintro e w2 ⟨rfl, hb2⟩
    have z2 := hb2.size
    have xb := xb.below hb2 (by omega)
    have b2 := b1.trans (hb2.mono (by omega))
    have i_x := h_x.below b2
    clear hb2
    rw [szR_no (by omega)]
    have xbq := xb
    obtain ⟨xb_0, xb_1, xb_2⟩ := xbq
    have xblt : w.heap.size < w2.heap.size := (by omega)
    go_wp2_with fail
    clear xb_0 xb_1 xb_2 xblt
    go_ret
    exact ⟨ret_int HR.out.symm, b2⟩

set_option maxRecDepth 100000 in
set_option maxHeartbeats 4000000 in
theorem eqRu_any (x y : Ru) (B : Nat) (w : World) (he : x.er = y.er) (hx : x.In w B) (hy : y.In w B) (hB : B ≤ w.heap.size) :
    Calls Tryz.prog 10 #[x.val, y.val] w fun e w' => e = .returned (.bool true) ∧ Below w.heap.size w w' := by
  have h_x := hx.more hB
  have h_y := hy.more hB
  have he2 := Prod.mk.inj he
  have he3 := Prod.mk.inj he2.2
  have E0 : S.eqL x.l0 y.l0 = true := Ru.eqL_refl_er he2.1
  have E1 : S.eqL x.l1 y.l1 = true := Ru.eqL_refl_er he3.1
  have E2 : S.eqL x.l2 y.l2 = true := Ru.eqL_refl_er he3.2
  have H0 := Lib.hid E0
  have H1 := Lib.hid E1
  have H2 := Lib.hid E2
  clear E0 E1 E2 he2 he3 he
  unfold Ru.val
  have b0 : Below w.heap.size w w := Below.refl _ _
  have i_x := h_x
  have i_y := h_y
  go_enter Tryz.func10, Tryz.ntmps10
  go_wp2_with fail
  obtain ⟨w2, hw2⟩ : ∃ W, W = (w.alloc (.cells #[.slice x.A0 x.l0.length x.c0, .slice x.A1 x.l1.length x.c1, .slice x.A2 x.l2.length x.c2] 29)).alloc (.cells #[.slice y.A0 y.l0.length y.c0, .slice y.A1 y.l1.length y.c1, .slice y.A2 y.l2.length y.c2] 29) := ⟨_, rfl⟩
  rw [← hw2]
  have hb2 : Below w.heap.size w w2 := by rw [hw2]; exact ((Below.refl _ _).alloc (Nat.le_refl _) _).alloc (by simp) _
  have z2 : w.heap.size + 2 ≤ w2.heap.size := by rw [hw2]; simp
  have xa : Ru.Box w2 w.heap.size x := by rw [hw2]; exact (Ru.Box.new w x _).below ((Below.refl (w.heap.size + 1) _).alloc (by simp) _) (by omega)
  have xb : Ru.Box w2 (w.heap.size + 1) y := by rw [hw2]; have := Ru.Box.new (w.alloc (.cells #[.slice x.A0 x.l0.length x.c0, .slice x.A1 x.l1.length x.c1, .slice x.A2 x.l2.length x.c2] 29)) y 29; simpa using this
  clear hw2
  have b2 := b0.trans (hb2.mono (by omega))
  have i_x := h_x.below b2
  have i_y := h_y.below b2
  clear hb2 b0
  have xaq := xa
  obtain ⟨xa_0, xa_1, xa_2⟩ := xaq
  have xalt : w.heap.size < w2.heap.size := (by omega)
  have xbq := xb
  obtain ⟨xb_0, xb_1, xb_2⟩ := xbq
  have xblt : w.heap.size + 1 < w2.heap.size := (by omega)
  go_wp2_with fail
  clear xa_0 xa_1 xa_2 xalt
  clear xb_0 xb_1 xb_2 xblt
  refine (seqL_all _ 0 0 ⟨#[]⟩ none 0 [] x.A0 x.c0 x.l0 0 0 ⟨#[]⟩ none 0 [] y.A0 y.c0 y.l0 w.heap.size _ (Nat.le_refl _) i_x.a i_y.a (by omega)).mono ?_
  rintro e w3 ⟨rfl, hb3⟩
  have z3 := hb3.size
  have xa := xa.below hb3 (by omega)
  have xb := xb.below hb3 (by omega)
  have b3 := b2.trans (hb3.mono (by omega))
  have i_x := h_x.below b3
  have i_y := h_y.below b3
  clear hb3
  rw [H0.out]
  have xaq := xa
  obtain ⟨xa_0, xa_1, xa_2⟩ := xaq
  have xalt : w.heap.size < w3.heap.size := (by omega)
  have xbq := xb
  obtain ⟨xb_0, xb_1, xb_2⟩ := xbq
  have xblt : w.heap.size + 1 < w3.heap.size := (by omega)
  go_wp2_with fail
  clear xa_0 xa_1 xa_2 xalt
  clear xb_0 xb_1 xb_2 xblt
  refine (seqL_all _ 0 0 ⟨#[]⟩ none 0 [] x.A1 x.c1 x.l1 0 0 ⟨#[]⟩ none 0 [] y.A1 y.c1 y.l1 w.heap.size _ (Nat.le_refl _) i_x.b i_y.b (by omega)).mono ?_
  rintro e w4 ⟨rfl, hb4⟩
  have z4 := hb4.size
  have xa := xa.below hb4 (by omega)
  have xb := xb.below hb4 (by omega)
  have b4 := b3.trans (hb4.mono (by omega))
  have i_x := h_x.below b4
  have i_y := h_y.below b4
  clear hb4
  rw [H1.out]
  have xaq := xa
  obtain ⟨xa_0, xa_1, xa_2⟩ := xaq
  have xalt : w.heap.size < w4.heap.size := (by omega)
  have xbq := xb
  obtain ⟨xb_0, xb_1, xb_2⟩ := xbq
  have xblt : w.heap.size + 1 < w4.heap.size := (by omega)
  go_wp2_with fail
  clear xa_0 xa_1 xa_2 xalt
  clear xb_0 xb_1 xb_2 xblt
  refine (seqL_all _ 0 0 ⟨#[]⟩ none 0 [] x.A2 x.c2 x.l2 0 0 ⟨#[]⟩ none 0 [] y.A2 y.c2 y.l2 w.heap.size _ (Nat.le_refl _) i_x.c i_y.c (by omega)).mono ?_
  rintro e w5 ⟨rfl, hb5⟩
  have z5 := hb5.size
  have xa := xa.below hb5 (by omega)
  have xb := xb.below hb5 (by omega)
  have b5 := b4.trans (hb5.mono (by omega))
  have i_x := h_x.below b5
  have i_y := h_y.below b5
  clear hb5
  rw [H2.out]
  have xaq := xa
  obtain ⟨xa_0, xa_1, xa_2⟩ := xaq
  have xalt : w.heap.size < w5.heap.size := (by omega)
  have xbq := xb
  obtain ⟨xb_0, xb_1, xb_2⟩ := xbq
  have xblt : w.heap.size + 1 < w5.heap.size := (by omega)
  go_wp2_with fail
  clear xa_0 xa_1 xa_2 xalt
  clear xb_0 xb_1 xb_2 xblt
  go_ret
  exact ⟨rfl, b5⟩

set_option maxRecDepth 100000 in
set_option maxHeartbeats 4000000 in
theorem toRu_any (x : Ru) (B : Nat) (w : World) (hs : x.bulk ≤ 2000000) (hin : x.In w B) (hB : B ≤ w.heap.size) :
    Calls Tryz.prog 8 #[x.val] w fun e w' => ∃ d : Ru, e = .returned d.val ∧ d.er = x.er ∧ Ru.Own w.heap.size w'.heap.size w' d ∧ Below w.heap.size w w' := by
  have hb0 : S.bulkL x.l0 ≤ 2000000 := by unfold Ru.bulk at hs; omega
  have hb1 : S.bulkL x.l1 ≤ 2000000 := by unfold Ru.bulk at hs; omega
  have hb2 : S.bulkL x.l2 ≤ 2000000 := by unfold Ru.bulk at hs; omega
  have hz0 : S.sizeL x.l0 ≤ 2000000 := by have := S.bulkL_size x.l0; omega
  have hz1 : S.sizeL x.l1 ≤ 2000000 := by have := S.bulkL_size x.l1; omega
  have hz2 : S.sizeL x.l2 ≤ 2000000 := by have := S.bulkL_size x.l2; omega
  obtain ⟨W1, hW1⟩ : ∃ W1, W1 = w.alloc (.cells #[.slice x.A0 x.l0.length x.c0, .slice x.A1 x.l1.length x.c1, .slice x.A2 x.l2.length x.c2] 24) := ⟨_, rfl⟩
  obtain ⟨W2, hW2⟩ : ∃ W2, W2 = W1.alloc (.cells #[.slice none 0 0, .slice none 0 0, .slice none 0 0] 29) := ⟨_, rfl⟩
  obtain ⟨W3, hW3⟩ : ∃ W3, W3 = W2.alloc (.cells #[.slice none 0 0, .slice none 0 0, .slice none 0 0] 29) := ⟨_, rfl⟩
  have z1 : W1.heap.size = w.heap.size + 1 := by rw [hW1]; simp
  have z2 : W2.heap.size = w.heap.size + 1 + 1 := by rw [hW2]; simp [z1]
  have z3 : W3.heap.size = w.heap.size + 1 + 1 + 1 := by rw [hW3]; simp [z2]
  have B1 : Below w.heap.size w W1 := by rw [hW1]; exact (Below.refl _ _).alloc (Nat.le_refl _) _
  have B2 : Below W1.heap.size W1 W2 := by rw [hW2]; exact (Below.refl _ _).alloc (Nat.le_refl _) _
  have B3 : Below W2.heap.size W2 W3 := by rw [hW3]; exact (Below.refl _ _).alloc (Nat.le_refl _) _
  have X0 : Ru.Box W1 w.heap.size x := by rw [hW1]; exact Ru.Box.new _ _ _
  have X0 := (X0.below B2 (by omega)).below B3 (by omega)
  have R0 : D.Blk W2 (w.heap.size + 1) 29 #[.slice none 0 0, .slice none 0 0, .slice none 0 0] := by rw [hW2, ← z1]; exact D.Blk.new _ _ _
  have R0 := R0.below B3 (by omega)
  have O0 : D.Blk W3 (w.heap.size + 1 + 1) 29 #[.slice none 0 0, .slice none 0 0, .slice none 0 0] := by rw [hW3, ← z2]; exact D.Blk.new _ _ _
  have b0 : Below w.heap.size w W3 := (B1.trans (B2.mono (by omega))).trans (B3.mono (by omega))
  have y3 : w.heap.size + 3 ≤ W3.heap.size := by omega
  have i0 := hin.below (b0.mono hB)
  unfold Ru.val
  have X0q := X0
  obtain ⟨a0, a1, a2⟩ := X0q
  go_enter Tryz.func8, Tryz.ntmps8
  go_wp2_with fail
  rw [← hW1, ← hW2, ← hW3]
  clear hW1 hW2 hW3 B1 B2 B3 z1 z2 z3 a0 a1 a2
  refine (stoL_step _ (sto_any _) 0 0 ⟨#[]⟩ none 0 [] x.A0 x.c0 x.l0 B _ hb0 (Nat.le_refl _) hz0 i0.a (by omega)).mono ?_
  rintro e v0 ⟨D0, d0, m0, rfl, he0, hl0, hc0, hod0, hA0, hq0⟩
  have zv0 := hq0.size
  have HE0 := Lib.hid he0
  have Q0 : (S.itm D0 d0 m0).Own (w.heap.size + 3) v0.heap.size v0 := S.Own.of_parts (IOwn.nil_ (by omega) (fun _ => rfl)) (hod0.wide (by omega) (Nat.le_refl _)) ⟨hl0, hc0, Nat.zero_le _⟩ (fun hne => by
      obtain ⟨g, e1, e2, e3, e4, e5, e6⟩ := hA0 hne
      exact ⟨g, e1, e2, by omega, e4, e5, e6, fun b hb => by simp [iblk] at hb⟩) (fun b hb => by simp [iblk] at hb)
  have lt0 : ∀ k ∈ S.blks (S.itm D0 d0 m0), k < v0.heap.size := Q0.inn.blk_lt
  have P0 : (S.itm D0 d0 m0).Own (w.heap.size + 3) v0.heap.size v0 := Q0.wide (by omega) (Nat.le_refl _)
  clear Q0
  have X0v := X0.below hq0 (by omega)
  have R0v := R0.below hq0 (by omega)
  have O0v := O0.below hq0 (by omega)
  have bv0 := b0.trans (hq0.mono (by omega))
  clear he0 hl0 hc0 hod0 hA0 hq0 X0 R0 O0 b0 i0
  have f0 := O0v.frozen 0
  have c0 : World.cell? v0 ⟨w.heap.size + 1 + 1, 0, none⟩ = some (.slice none 0 0) := O0v.cell 0
  have X0q := X0v
  obtain ⟨a0, a1, a2⟩ := X0q
  go_wp2_with fail
  obtain ⟨U1, hU1⟩ : ∃ U, U = v0.setCell ⟨w.heap.size + 1 + 1, 0, none⟩ (.slice D0 m0.length d0) := ⟨_, rfl⟩
  rw [← hU1]
  have O1 : D.Blk U1 (w.heap.size + 1 + 1) 29 #[.slice D0 m0.length d0, .slice none 0 0, .slice none 0 0] := by rw [hU1]; have := O0v.set_ 0 (.slice D0 m0.length d0); simpa using this
  have R1 : D.Blk U1 (w.heap.size + 1) 29 #[.slice none 0 0, .slice none 0 0, .slice none 0 0] := by rw [hU1]; exact Ru.blk_far R0v (by simp) _
  have X1 : Ru.Box U1 w.heap.size x := by rw [hU1]; exact X0v.keep (Below.heap_setCell _ _ _ _ (by simp; omega))
  have b1 : Below w.heap.size w U1 := by rw [hU1]; exact bv0.setCell (by simp; omega) _
  have y1 : U1.heap.size = v0.heap.size := by rw [hU1]; simp
  have P0 : (S.itm D0 d0 m0).Own (w.heap.size + 3) U1.heap.size U1 := by rw [y1, hU1]; exact P0.far (by simp) _
  have i1 := hin.below (b1.mono hB)
  have yl1 : v0.heap.size ≤ U1.heap.size := by omega
  clear hU1 O0v R0v X0v bv0 f0 c0 a0 a1 a2 y1
  refine (stoL_step _ (sto_any _) 0 0 ⟨#[]⟩ none 0 [] x.A1 x.c1 x.l1 B _ hb1 (Nat.le_refl _) hz1 i1.b (by omega)).mono ?_
  rintro e v1 ⟨D1, d1, m1, rfl, he1, hl1, hc1, hod1, hA1, hq1⟩
  have zv1 := hq1.size
  have HE1 := Lib.hid he1
  have Q1 : (S.itm D1 d1 m1).Own (v0.heap.size) v1.heap.size v1 := S.Own.of_parts (IOwn.nil_ (by omega) (fun _ => rfl)) (hod1.wide (by omega) (Nat.le_refl _)) ⟨hl1, hc1, Nat.zero_le _⟩ (fun hne => by
      obtain ⟨g, e1, e2, e3, e4, e5, e6⟩ := hA1 hne
      exact ⟨g, e1, e2, by omega, e4, e5, e6, fun b hb => by simp [iblk] at hb⟩) (fun b hb => by simp [iblk] at hb)
  have nab : ∀ k ∈ S.blks (S.itm D0 d0 m0), k ∉ S.blks (S.itm D1 d1 m1) := fun k h0 h1 => by have := lt0 k h0; have := Q1.lo_ k h1; omega
  have lt1 : ∀ k ∈ S.blks (S.itm D1 d1 m1), k < v1.heap.size := Q1.inn.blk_lt
  have P1 : (S.itm D1 d1 m1).Own (w.heap.size + 3) v1.heap.size v1 := Q1.wide (by omega) (Nat.le_refl _)
  clear Q1
  have P0 := (P0.below (hq1.mono (by omega))).wide (Nat.le_refl _) (show _ ≤ v1.heap.size by omega)
  have X1v := X1.below hq1 (by omega)
  have R1v := R1.below hq1 (by omega)
  have O1v := O1.below hq1 (by omega)
  have bv1 := b1.trans (hq1.mono (by omega))
  clear he1 hl1 hc1 hod1 hA1 hq1 X1 R1 O1 b1 i1
  have f1 := O1v.frozen 1
  have c1 : World.cell? v1 ⟨w.heap.size + 1 + 1, 1, none⟩ = some (.slice none 0 0) := O1v.cell 1
  have X1q := X1v
  obtain ⟨a0, a1, a2⟩ := X1q
  go_wp2_with fail
  obtain ⟨U2, hU2⟩ : ∃ U, U = v1.setCell ⟨w.heap.size + 1 + 1, 1, none⟩ (.slice D1 m1.length d1) := ⟨_, rfl⟩
  rw [← hU2]
  have O2 : D.Blk U2 (w.heap.size + 1 + 1) 29 #[.slice D0 m0.length d0, .slice D1 m1.length d1, .slice none 0 0] := by rw [hU2]; have := O1v.set_ 1 (.slice D1 m1.length d1); simpa using this
  have R2 : D.Blk U2 (w.heap.size + 1) 29 #[.slice none 0 0, .slice none 0 0, .slice none 0 0] := by rw [hU2]; exact Ru.blk_far R1v (by simp) _
  have X2 : Ru.Box U2 w.heap.size x := by rw [hU2]; exact X1v.keep (Below.heap_setCell _ _ _ _ (by simp; omega))
  have b2 : Below w.heap.size w U2 := by rw [hU2]; exact bv1.setCell (by simp; omega) _
  have y2 : U2.heap.size = v1.heap.size := by rw [hU2]; simp
  have P0 : (S.itm D0 d0 m0).Own (w.heap.size + 3) U2.heap.size U2 := by rw [y2, hU2]; exact P0.far (by simp) _
  have P1 : (S.itm D1 d1 m1).Own (w.heap.size + 3) U2.heap.size U2 := by rw [y2, hU2]; exact P1.far (by simp) _
  have i2 := hin.below (b2.mono hB)
  have yl2 : v1.heap.size ≤ U2.heap.size := by omega
  clear hU2 O1v R1v X1v bv1 f1 c1 a0 a1 a2 y2
  refine (stoL_step _ (sto_any _) 0 0 ⟨#[]⟩ none 0 [] x.A2 x.c2 x.l2 B _ hb2 (Nat.le_refl _) hz2 i2.c (by omega)).mono ?_
  rintro e v2 ⟨D2, d2, m2, rfl, he2, hl2, hc2, hod2, hA2, hq2⟩
  have zv2 := hq2.size
  have HE2 := Lib.hid he2
  have Q2 : (S.itm D2 d2 m2).Own (v1.heap.size) v2.heap.size v2 := S.Own.of_parts (IOwn.nil_ (by omega) (fun _ => rfl)) (hod2.wide (by omega) (Nat.le_refl _)) ⟨hl2, hc2, Nat.zero_le _⟩ (fun hne => by
      obtain ⟨g, e1, e2, e3, e4, e5, e6⟩ := hA2 hne
      exact ⟨g, e1, e2, by omega, e4, e5, e6, fun b hb => by simp [iblk] at hb⟩) (fun b hb => by simp [iblk] at hb)
  have nac : ∀ k ∈ S.blks (S.itm D0 d0 m0), k ∉ S.blks (S.itm D2 d2 m2) := fun k h0 h1 => by have := lt0 k h0; have := Q2.lo_ k h1; omega
  have nbc : ∀ k ∈ S.blks (S.itm D1 d1 m1), k ∉ S.blks (S.itm D2 d2 m2) := fun k h0 h1 => by have := lt1 k h0; have := Q2.lo_ k h1; omega
  have lt2 : ∀ k ∈ S.blks (S.itm D2 d2 m2), k < v2.heap.size := Q2.inn.blk_lt
  have P2 : (S.itm D2 d2 m2).Own (w.heap.size + 3) v2.heap.size v2 := Q2.wide (by omega) (Nat.le_refl _)
  clear Q2
  have P0 := (P0.below (hq2.mono (by omega))).wide (Nat.le_refl _) (show _ ≤ v2.heap.size by omega)
  have P1 := (P1.below (hq2.mono (by omega))).wide (Nat.le_refl _) (show _ ≤ v2.heap.size by omega)
  have X2v := X2.below hq2 (by omega)
  have R2v := R2.below hq2 (by omega)
  have O2v := O2.below hq2 (by omega)
  have bv2 := b2.trans (hq2.mono (by omega))
  clear he2 hl2 hc2 hod2 hA2 hq2 X2 R2 O2 b2 i2
  have f2 := O2v.frozen 2
  have c0 : World.cell? v2 ⟨w.heap.size + 1 + 1, 0, none⟩ = some (.slice D0 m0.length d0) := O2v.cell 0
  have c1 : World.cell? v2 ⟨w.heap.size + 1 + 1, 1, none⟩ = some (.slice D1 m1.length d1) := O2v.cell 1
  have c2 : World.cell? v2 ⟨w.heap.size + 1 + 1, 2, none⟩ = some (.slice none 0 0) := O2v.cell 2
  have r0 : World.cell? v2 ⟨w.heap.size + 1, 0, none⟩ = some (.slice none 0 0) := R2v.cell 0
  have g0 := R2v.frozen 0
  have r1 : World.cell? v2 ⟨w.heap.size + 1, 1, none⟩ = some (.slice none 0 0) := R2v.cell 1
  have g1 := R2v.frozen 1
  have r2 : World.cell? v2 ⟨w.heap.size + 1, 2, none⟩ = some (.slice none 0 0) := R2v.cell 2
  have g2 := R2v.frozen 2
  have PP : Hid (Ru.Own (w.heap.size + 3) v2.heap.size v2 ⟨D0, d0, m0, D1, d1, m1, D2, d2, m2⟩) := ⟨P0, P1, P2, nab, nac, nbc⟩
  clear P0 P1 P2 O2v R2v nab nac nbc lt0 lt1 lt2
  go_wp2_with fail
  refine bodyPost_ret (v := .agg #[.slice D0 m0.length d0, .slice D1 m1.length d1, .slice D2 m2.length d2]) (by simp [results, Tryz.results8, go_sem, r0, r1, r2]) rfl ⟨⟨D0, d0, m0, D1, d1, m1, D2, d2, m2⟩, rfl, ?_, ?_, ?_⟩
  · show (S.erL m0, S.erL m1, S.erL m2) = _
    rw [HE0.out, HE1.out, HE2.out]; rfl
  · simp only [World.size_setCell]
    exact ((((PP.out.far (by simp) _).far (by simp) _).far (by simp) _).far (by simp) _).wide (by omega) (Nat.le_refl _)
  · exact (((bv2.setCell (by simp; omega) _).setCell (by simp) _).setCell (by simp) _).setCell (by simp) _
end Go.Proofs.YtnldlbglgalbaabGreat
