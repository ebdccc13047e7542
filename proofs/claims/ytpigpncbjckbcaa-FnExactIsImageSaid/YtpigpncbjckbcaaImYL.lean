/-
  The law on IsImage, walked (written by gen/imyl.py).
-/
import Derived.Test.YtpigpncbjckbcaaImYc
import Derived.Test.YtpigpncbjckbcaaRIm
import Derived.Deep.RegionHeld3
namespace Go.Proofs.Ytpigpncbjckbcaa
open Go.RowKit

set_option maxRecDepth 100000 in
set_option maxHeartbeats 16000000 in
theorem law_iim (a : Im) (n : Int) (w : World) (h_a : Im.E.In w w.heap.size a) : Calls Try.prog 5 #[Im.val a, .int .i64 n] w fun e w' => e = .returned (.bool true) ∧ Below w.heap.size w w' := by
  unfold Im.val
  by_cases hz_a : (a.bulk : Int) ≤ 1048576
  · have hs_a : a.bulk ≤ 1500000 := by omega
    obtain ⟨X, hX⟩ : ∃ X, X = Im.isIm a n := ⟨_, rfl⟩
    have HX := Lib.hid hX
    clear hX
    have nq : (X != X) = false := by simp
    have hk_a : a.bulk ≤ 1500000 := by omega
    have b0 : Below w.heap.size w w := Below.refl _ _
    have i_a := h_a
    go_enter Try.func5, Try.ntmps5
    go_wp2_with fail
    obtain ⟨w1, hw1⟩ : ∃ W, W = w.alloc (.cells #[.slice a.lA a.l.length a.lC, .int .i64 a.m] 26) := ⟨_, rfl⟩
    rw [← hw1]
    have hb1 : Below w.heap.size w w1 := by rw [hw1]; exact (Below.refl _ _).alloc (Nat.le_refl _) _
    have z1 : w.heap.size + 1 ≤ w1.heap.size := by rw [hw1]; simp
    have y1 : w1.heap.size ≤ w.heap.size + 1 := by rw [hw1]; simp
    have a_a : Im.Box w1 w.heap.size a := by rw [hw1]; exact Im.Box.new _ _ _
    clear hw1
    have b1 := b0.trans (hb1.mono (by omega))
    have i_a := h_a.below b1
    clear hb1
    refine (Im_sz_any a w.heap.size _ 1048576 (by omega) (by omega) i_a (by omega)).mono ?_
    rintro e w2 ⟨rfl, hb2⟩
    have z2 := hb2.size
    have a_a := a_a.below hb2 (by omega)
    have b2 := b1.trans (hb2.mono (by omega))
    have i_a := h_a.below b2
    clear hb2
    rw [szR_yes (by omega)]
    have n1_a : ¬ (1048576 - (a.bulk : Int) < 0) := by omega
    have a_aq := a_a
    obtain ⟨a_a_0, a_a_1⟩ := a_aq
    have a_alt : w.heap.size < w2.heap.size := (by omega)
    go_wp2_with fail
    clear a_a_0 a_a_1 a_alt
    refine (Im_to_any a w.heap.size _ hs_a i_a (by omega)).mono ?_
    rintro e w3 ⟨d1_a, rfl, hed1_a, od1_a, hb3⟩
    have z3 := hb3.size
    have a_a := a_a.below hb3 (by omega)
    have b3 := b2.trans (hb3.mono (by omega))
    have i_a := h_a.below b3
    clear hb3
    have Qd1_a := Lib.hid hed1_a
    clear hed1_a
    have a_aq := a_a
    obtain ⟨a_a_0, a_a_1⟩ := a_aq
    have a_alt : w.heap.size < w3.heap.size := (by omega)
    go_wp2_with fail
    clear a_a_0 a_a_1 a_alt
    refine (specIsIm_c n d1_a w3.heap.size _ Qd1_a.out HX.out (od1_a.inn.more (by omega)) (by omega) hk_a).mono ?_
    rintro e w4 ⟨rfl, hb4⟩
    have z4 := hb4.size
    have a_a := a_a.below hb4 (by omega)
    have od1_a := od1_a.below (hb4.mono (by omega))
    have b4 := b3.trans (hb4.mono (by omega))
    have i_a := h_a.below b4
    clear hb4
    clear od1_a
    have a_aq := a_a
    obtain ⟨a_a_0, a_a_1⟩ := a_aq
    have a_alt : w.heap.size < w4.heap.size := (by omega)
    go_wp2_with fail
    clear a_a_0 a_a_1 a_alt
    refine (Im_to_any a w.heap.size _ hs_a i_a (by omega)).mono ?_
    rintro e w5 ⟨x_a, rfl, hex_a, ox_a, hb5⟩
    have z5 := hb5.size
    have a_a := a_a.below hb5 (by omega)
    have b5 := b4.trans (hb5.mono (by omega))
    have i_a := h_a.below b5
    clear hb5
    have Qx_a := Lib.hid hex_a
    clear hex_a
    simp only [Im.val]
    have a_aq := a_a
    obtain ⟨a_a_0, a_a_1⟩ := a_aq
    have a_alt : w.heap.size < w5.heap.size := (by omega)
    go_wp2_with fail
    clear a_a_0 a_a_1 a_alt
    obtain ⟨w6, hw6⟩ : ∃ W, W = w5.alloc (.cells #[.slice x_a.lA x_a.l.length x_a.lC, .int .i64 x_a.m] 31) := ⟨_, rfl⟩
    rw [← hw6]
    have hb6 : Below w5.heap.size w5 w6 := by rw [hw6]; exact (Below.refl _ _).alloc (Nat.le_refl _) _
    have z6 : w5.heap.size + 1 ≤ w6.heap.size := by rw [hw6]; simp
    have y6 : w6.heap.size ≤ w5.heap.size + 1 := by rw [hw6]; simp
    have xb_a : Im.Box w6 w5.heap.size x_a := by rw [hw6]; exact Im.Box.new _ _ _
    clear hw6
    have a_a := a_a.below hb6 (by omega)
    have ox_a := ox_a.below (hb6.mono (by omega))
    have b6 := b5.trans (hb6.mono (by omega))
    have i_a := h_a.below b6
    clear hb6
    refine (implIsIm_c n x_a w6.heap.size _ Qx_a.out HX.out (ox_a.inn.more (by omega)) (by omega) hk_a).mono ?_
    rintro e w7 ⟨rfl, hb7⟩
    have z7 := hb7.size
    have a_a := a_a.below hb7 (by omega)
    have xb_a := xb_a.below hb7 (by omega)
    have ox_a := ox_a.below (hb7.mono (by omega))
    have b7 := b6.trans (hb7.mono (by omega))
    have i_a := h_a.below b7
    clear hb7
    have a_aq := a_a
    obtain ⟨a_a_0, a_a_1⟩ := a_aq
    have a_alt : w.heap.size < w7.heap.size := (by omega)
    have xb_aq := xb_a
    obtain ⟨xb_a_0, xb_a_1⟩ := xb_aq
    have xb_alt : w5.heap.size < w7.heap.size := (by omega)
    go_wp2_with fail
    clear a_a_0 a_a_1 a_alt
    clear xb_a_0 xb_a_1 xb_alt
    have a_aq := a_a
    obtain ⟨a_a_0, a_a_1⟩ := a_aq
    have a_alt : w.heap.size < w7.heap.size := (by omega)
    have xb_aq := xb_a
    obtain ⟨xb_a_0, xb_a_1⟩ := xb_aq
    have xb_alt : w5.heap.size < w7.heap.size := (by omega)
    have tok0 : True := trivial
    have tok1 : True := trivial
    go_region_held3 (fun w' => w'.cell? ⟨w.heap.size, 0, none⟩ = some (.slice a.lA a.l.length a.lC) ∧ w'.cell? ⟨w.heap.size, 1, none⟩ = some (.int .i64 a.m) ∧ w'.cell? ⟨w5.heap.size, 0, none⟩ = some (.slice x_a.lA x_a.l.length x_a.lC) ∧ w'.cell? ⟨w5.heap.size, 1, none⟩ = some (.int .i64 x_a.m)) (go_keep)
      (first
        | (go_at_call 11; have _t := tok0; refine (Im_to_any a w.heap.size _ hs_a ?_ ?_).mono ?_; exact i_a.drew; (show w.heap.size ≤ w7.heap.size); omega; rintro e w8 ⟨y_a, rfl, hey_a, oy_a, hb8⟩; have hb8 : Below w7.heap.size w7 w8 := below_undrew hb8; have z8 : w7.heap.size ≤ w8.heap.size := hb8.size; clear tok0; have Qy_a := Lib.hid hey_a; clear hey_a; have a_a := a_a.below hb8 (by omega); have xb_a := xb_a.below hb8 (by omega); have ox_a := ox_a.below (hb8.mono (by omega)); have b8 := b7.trans (hb8.mono (by omega)); have i_a := h_a.below b8; clear hb8; have a_aq := a_a; obtain ⟨a_a_0, a_a_1⟩ := a_aq; have a_alt : w.heap.size < w8.heap.size := (by omega); have xb_aq := xb_a; obtain ⟨xb_a_0, xb_a_1⟩ := xb_aq; have xb_alt : w5.heap.size < w8.heap.size := (by omega))
        | (go_at_call 13; have _t := tok1; refine (Im_eq_any x_a y_a w8.heap.size _ (Qx_a.out.trans Qy_a.out.symm) ?_ ?_ ?_).mono ?_; exact ox_a.inn.more (by omega); exact oy_a.inn.more (by omega); omega; rintro e w9 ⟨rfl, hb9⟩; have z9 : w8.heap.size ≤ w9.heap.size := hb9.size; clear tok1; have a_a := a_a.below hb9 (by omega); have xb_a := xb_a.below hb9 (by omega); have ox_a := ox_a.below (hb9.mono (by omega)); have b9 := b8.trans (hb9.mono (by omega)); have i_a := h_a.below b9; clear hb9; have a_aq := a_a; obtain ⟨a_a_0, a_a_1⟩ := a_aq; have a_alt : w.heap.size < w9.heap.size := (by omega); have xb_aq := xb_a; obtain ⟨xb_a_0, xb_a_1⟩ := xb_aq; have xb_alt : w5.heap.size < w9.heap.size := (by omega)))
    clear a_a_0 a_a_1 a_alt
    clear xb_a_0 xb_a_1 xb_alt
    clear oy_a
    have a_aq := a_a
    obtain ⟨a_a_0, a_a_1⟩ := a_aq
    have a_alt : w.heap.size < w9.heap.size := (by omega)
    have xb_aq := xb_a
    obtain ⟨xb_a_0, xb_a_1⟩ := xb_aq
    have xb_alt : w5.heap.size < w9.heap.size := (by omega)
    go_wp2_with fail
    clear a_a_0 a_a_1 a_alt
    clear xb_a_0 xb_a_1 xb_alt
    go_ret
    exact ⟨rfl, b9⟩
  · have b0 : Below w.heap.size w w := Below.refl _ _
    have i_a := h_a
    go_enter Try.func5, Try.ntmps5
    go_wp2_with fail
    obtain ⟨w1, hw1⟩ : ∃ W, W = w.alloc (.cells #[.slice a.lA a.l.length a.lC, .int .i64 a.m] 26) := ⟨_, rfl⟩
    rw [← hw1]
    have hb1 : Below w.heap.size w w1 := by rw [hw1]; exact (Below.refl _ _).alloc (Nat.le_refl _) _
    have z1 : w.heap.size + 1 ≤ w1.heap.size := by rw [hw1]; simp
    have y1 : w1.heap.size ≤ w.heap.size + 1 := by rw [hw1]; simp
    have a_a : Im.Box w1 w.heap.size a := by rw [hw1]; exact Im.Box.new _ _ _
    clear hw1
    have b1 := b0.trans (hb1.mono (by omega))
    have i_a := h_a.below b1
    clear hb1
    refine (Im_sz_any a w.heap.size _ 1048576 (by omega) (by omega) i_a (by omega)).mono ?_
    rintro e w2 ⟨rfl, hb2⟩
    have z2 := hb2.size
    have a_a := a_a.below hb2 (by omega)
    have b2 := b1.trans (hb2.mono (by omega))
    have i_a := h_a.below b2
    clear hb2
    rw [szR_no (by omega)]
    have a_aq := a_a
    obtain ⟨a_a_0, a_a_1⟩ := a_aq
    have a_alt : w.heap.size < w2.heap.size := (by omega)
    go_wp2_with fail
    clear a_a_0 a_a_1 a_alt
    go_ret
    exact ⟨rfl, b2⟩
end Go.Proofs.Ytpigpncbjckbcaa
