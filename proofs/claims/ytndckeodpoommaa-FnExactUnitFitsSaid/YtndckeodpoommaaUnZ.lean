/-
  Unit: the laws' own size (written by gen/rec.py).
-/
import Derived.Test.YtndckeodpoommaaUnB
import Derived.Test.YtndckeodpoommaaSTrees
import Derived.Test.YtndckeodpoommaaKoCopy
namespace Go.Proofs.Ytndckeodpoommaa
open Go.RowKit

set_option maxRecDepth 100000 in
set_option maxHeartbeats 4000000 in
theorem Un_sz_any (d : Un) (B : Nat) (w : World) (left : Int) (h0 : 0 ≤ left) (h1 : left ≤ 1048576) (hin : Un.E.In w B d) (hB : B ≤ w.heap.size) :
    Calls Try.prog 28 #[Un.val d, .int .i64 left] w fun e w' => e = .returned (.int .i64 (szR (d.bulk) left)) ∧ Below w.heap.size w w' := by
  have h_d := Elem.In.more hin hB
  have hbu : ((d.bulk : Nat) : Int) = (d.nm.size : Int) + (d.g.length : Int) + (d.b.bulk Ko.bulk : Int) := by unfold Un.bulk; omega
  have hin_nm := (Un.E_in hin).nm
  unfold Un.val
  by_cases hz0 : (d.nm.size : Int) ≤ left
  · skip
    by_cases hz1 : (d.g.length : Int) ≤ left - (d.nm.size : Int)
    · skip
      by_cases hz2 : (d.b.bulk Ko.bulk : Int) ≤ left - (d.nm.size : Int) - (d.g.length : Int)
      · skip
        have HR : Hid (szR (d.bulk) left = left - (d.nm.size : Int) - (d.g.length : Int) - (d.b.bulk Ko.bulk : Int)) := by show _ = _; rw [szR_yes (by omega)]; omega
        clear hbu
        have b0 : Below w.heap.size w w := Below.refl _ _
        have i_d := h_d
        go_enter Try.func28, Try.ntmps28
        have n0 : ¬ (left - (d.nm.size : Int) < 0) := by omega
        go_wp2_with fail
        obtain ⟨w1, hw1⟩ : ∃ W, W = w.alloc (.cells #[.string d.nm, .slice d.gA d.g.length d.gC, .int .i64 d.b.a.k, .int .i64 d.b.a.n, .slice d.b.a.sA d.b.a.s.length d.b.a.sC, .int .i64 d.b.a.d.k, .int .i64 d.b.a.d.n, .string d.b.a.d.t, .slice d.b.a.d.A d.b.a.d.l.length d.b.a.d.c, .slice d.b.A d.b.l.length d.b.c] 67) := ⟨_, rfl⟩
        rw [← hw1]
        have hb1 : Below w.heap.size w w1 := by rw [hw1]; exact (Below.refl _ _).alloc (Nat.le_refl _) _
        have z1 : w.heap.size + 1 ≤ w1.heap.size := by rw [hw1]; simp
        have y1 : w1.heap.size ≤ w.heap.size + 1 := by rw [hw1]; simp
        have xb : Un.Box w1 w.heap.size d := by rw [hw1]; exact Un.Box.new _ _ _
        clear hw1
        have b1 := b0.trans (hb1.mono (by omega))
        have i_d := h_d.below b1
        clear hb1
        have xbq := xb
        obtain ⟨xb_0, xb_1, xb_2, xb_3, xb_4, xb_5, xb_6, xb_7, xb_8, xb_9⟩ := xbq
        have xblt : w.heap.size < w1.heap.size := (by omega)
        go_wp2_with fail
        clear xb_0 xb_1 xb_2 xb_3 xb_4 xb_5 xb_6 xb_7 xb_8 xb_9 xblt
        refine (szIR_any d.gA d.gC d.g _ (left - (d.nm.size : Int)) (Un.E_in i_d).g.cap (by omega) (by omega)).mono ?_
        rintro e w0 ⟨rfl, hw0⟩
        obtain rfl := hw0.symm
        rw [szR_yes (by omega)]
        have n1 : ¬ (left - (d.nm.size : Int) - (d.g.length : Int) < 0) := by omega
        have xbq := xb
        obtain ⟨xb_0, xb_1, xb_2, xb_3, xb_4, xb_5, xb_6, xb_7, xb_8, xb_9⟩ := xbq
        have xblt : w.heap.size < w1.heap.size := (by omega)
        go_wp2_with fail
        clear xb_0 xb_1 xb_2 xb_3 xb_4 xb_5 xb_6 xb_7 xb_8 xb_9 xblt
        refine (Ko_sz_any _ d.b w.heap.size _ (left - (d.nm.size : Int) - (d.g.length : Int)) (Nat.le_refl _) (by omega) (by omega) (Un.E_in i_d).b (by omega)).mono ?_
        rintro e w2 ⟨rfl, hb2⟩
        have z2 := hb2.size
        have xb := xb.below hb2 (by omega)
        have b2 := b1.trans (hb2.mono (by omega))
        have i_d := h_d.below b2
        clear hb2
        rw [szR_yes (by omega)]
        have n2 : ¬ (left - (d.nm.size : Int) - (d.g.length : Int) - (d.b.bulk Ko.bulk : Int) < 0) := by omega
        have xbq := xb
        obtain ⟨xb_0, xb_1, xb_2, xb_3, xb_4, xb_5, xb_6, xb_7, xb_8, xb_9⟩ := xbq
        have xblt : w.heap.size < w2.heap.size := (by omega)
        go_wp2_with fail
        clear xb_0 xb_1 xb_2 xb_3 xb_4 xb_5 xb_6 xb_7 xb_8 xb_9 xblt
        go_ret
        exact ⟨ret_int HR.out.symm, b2⟩
      · skip
        have HR : Hid (szR (d.bulk) left = -1) := szR_no (by omega)
        clear hbu
        have b0 : Below w.heap.size w w := Below.refl _ _
        have i_d := h_d
        go_enter Try.func28, Try.ntmps28
        have n0 : ¬ (left - (d.nm.size : Int) < 0) := by omega
        go_wp2_with fail
        obtain ⟨w1, hw1⟩ : ∃ W, W = w.alloc (.cells #[.string d.nm, .slice d.gA d.g.length d.gC, .int .i64 d.b.a.k, .int .i64 d.b.a.n, .slice d.b.a.sA d.b.a.s.length d.b.a.sC, .int .i64 d.b.a.d.k, .int .i64 d.b.a.d.n, .string d.b.a.d.t, .slice d.b.a.d.A d.b.a.d.l.length d.b.a.d.c, .slice d.b.A d.b.l.length d.b.c] 67) := ⟨_, rfl⟩
        rw [← hw1]
        have hb1 : Below w.heap.size w w1 := by rw [hw1]; exact (Below.refl _ _).alloc (Nat.le_refl _) _
        have z1 : w.heap.size + 1 ≤ w1.heap.size := by rw [hw1]; simp
        have y1 : w1.heap.size ≤ w.heap.size + 1 := by rw [hw1]; simp
        have xb : Un.Box w1 w.heap.size d := by rw [hw1]; exact Un.Box.new _ _ _
        clear hw1
        have b1 := b0.trans (hb1.mono (by omega))
        have i_d := h_d.below b1
        clear hb1
        have xbq := xb
        obtain ⟨xb_0, xb_1, xb_2, xb_3, xb_4, xb_5, xb_6, xb_7, xb_8, xb_9⟩ := xbq
        have xblt : w.heap.size < w1.heap.size := (by omega)
        go_wp2_with fail
        clear xb_0 xb_1 xb_2 xb_3 xb_4 xb_5 xb_6 xb_7 xb_8 xb_9 xblt
        refine (szIR_any d.gA d.gC d.g _ (left - (d.nm.size : Int)) (Un.E_in i_d).g.cap (by omega) (by omega)).mono ?_
        rintro e w0 ⟨rfl, hw0⟩
        obtain rfl := hw0.symm
        rw [szR_yes (by omega)]
        have n1 : ¬ (left - (d.nm.size : Int) - (d.g.length : Int) < 0) := by omega
        have xbq := xb
        obtain ⟨xb_0, xb_1, xb_2, xb_3, xb_4, xb_5, xb_6, xb_7, xb_8, xb_9⟩ := xbq
        have xblt : w.heap.size < w1.heap.size := (by omega)
        go_wp2_with fail
        clear xb_0 xb_1 xb_2 xb_3 xb_4 xb_5 xb_6 xb_7 xb_8 xb_9 xblt
        refine (Ko_sz_any _ d.b w.heap.size _ (left - (d.nm.size : Int) - (d.g.length : Int)) (Nat.le_refl _) (by omega) (by omega) (Un.E_in i_d).b (by omega)).mono ?_
        rintro e w2 ⟨rfl, hb2⟩
        have z2 := hb2.size
        have xb := xb.below hb2 (by omega)
        have b2 := b1.trans (hb2.mono (by omega))
        have i_d := h_d.below b2
        clear hb2
        rw [szR_no (by omega)]
        have xbq := xb
        obtain ⟨xb_0, xb_1, xb_2, xb_3, xb_4, xb_5, xb_6, xb_7, xb_8, xb_9⟩ := xbq
        have xblt : w.heap.size < w2.heap.size := (by omega)
        go_wp2_with fail
        clear xb_0 xb_1 xb_2 xb_3 xb_4 xb_5 xb_6 xb_7 xb_8 xb_9 xblt
        go_ret
        exact ⟨ret_int HR.out.symm, b2⟩
    · skip
      have HR : Hid (szR (d.bulk) left = -1) := szR_no (by omega)
      clear hbu
      have b0 : Below w.heap.size w w := Below.refl _ _
      have i_d := h_d
      go_enter Try.func28, Try.ntmps28
      have n0 : ¬ (left - (d.nm.size : Int) < 0) := by omega
      go_wp2_with fail
      obtain ⟨w1, hw1⟩ : ∃ W, W = w.alloc (.cells #[.string d.nm, .slice d.gA d.g.length d.gC, .int .i64 d.b.a.k, .int .i64 d.b.a.n, .slice d.b.a.sA d.b.a.s.length d.b.a.sC, .int .i64 d.b.a.d.k, .int .i64 d.b.a.d.n, .string d.b.a.d.t, .slice d.b.a.d.A d.b.a.d.l.length d.b.a.d.c, .slice d.b.A d.b.l.length d.b.c] 67) := ⟨_, rfl⟩
      rw [← hw1]
      have hb1 : Below w.heap.size w w1 := by rw [hw1]; exact (Below.refl _ _).alloc (Nat.le_refl _) _
      have z1 : w.heap.size + 1 ≤ w1.heap.size := by rw [hw1]; simp
      have y1 : w1.heap.size ≤ w.heap.size + 1 := by rw [hw1]; simp
      have xb : Un.Box w1 w.heap.size d := by rw [hw1]; exact Un.Box.new _ _ _
      clear hw1
      have b1 := b0.trans (hb1.mono (by omega))
      have i_d := h_d.below b1
      clear hb1
      have xbq := xb
      obtain ⟨xb_0, xb_1, xb_2, xb_3, xb_4, xb_5, xb_6, xb_7, xb_8, xb_9⟩ := xbq
      have xblt : w.heap.size < w1.heap.size := (by omega)
      go_wp2_with fail
      clear xb_0 xb_1 xb_2 xb_3 xb_4 xb_5 xb_6 xb_7 xb_8 xb_9 xblt
      refine (szIR_any d.gA d.gC d.g _ (left - (d.nm.size : Int)) (Un.E_in i_d).g.cap (by omega) (by omega)).mono ?_
      rintro e w0 ⟨rfl, hw0⟩
      obtain rfl := hw0.symm
      rw [szR_no (by omega)]
      have xbq := xb
      obtain ⟨xb_0, xb_1, xb_2, xb_3, xb_4, xb_5, xb_6, xb_7, xb_8, xb_9⟩ := xbq
      have xblt : w.heap.size < w1.heap.size := (by omega)
      go_wp2_with fail
      clear xb_0 xb_1 xb_2 xb_3 xb_4 xb_5 xb_6 xb_7 xb_8 xb_9 xblt
      go_ret
      exact ⟨ret_int HR.out.symm, b1⟩
  · skip
    have HR : Hid (szR (d.bulk) left = -1) := szR_no (by omega)
    clear hbu
    have b0 : Below w.heap.size w w := Below.refl _ _
    have i_d := h_d
    go_enter Try.func28, Try.ntmps28
    have n0 : left - (d.nm.size : Int) < 0 := by omega
    go_wp2_with fail
    go_ret
    exact ⟨ret_int HR.out.symm, (Below.refl _ _).alloc (Nat.le_refl _) _⟩
end Go.Proofs.Ytndckeodpoommaa
