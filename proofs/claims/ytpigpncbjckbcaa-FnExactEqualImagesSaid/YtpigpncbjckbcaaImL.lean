/-
  The law on EqualImages, walked (written by gen/imgl.py).
-/
import Derived.Test.YtpigpncbjckbcaaImS
import Derived.Deep.RegionHeld3
namespace Go.Proofs.Ytpigpncbjckbcaa
open Go.RowKit
theorem specEqIm_c (a b : Im) {a0 b0 : Im} {X : Bool} (B : Nat) (w : World) (ha0 : a.er = a0.er) (hb0 : b.er = b0.er) (hX : X = Im.eqB a0 b0) (ha : Im.E.In w B a) (hb : Im.E.In w B b) (hB : B ≤ w.heap.size) :
    Calls Try.prog 10 #[Im.val a, Im.val b] w fun e w' => e = .returned (.bool X) ∧ Below w.heap.size w w' := by
  rw [hX, ← Im.eqB_er ha0 hb0]
  exact specEqIm_any a b B w ha hb hB
theorem implEqIm_c (a b : Im) {a0 b0 : Im} {X : Bool} (B : Nat) (w : World) (ha0 : a.er = a0.er) (hb0 : b.er = b0.er) (hX : X = Im.eqB a0 b0) (ha : Im.E.In w B a) (hb : Im.E.In w B b) (hB : B ≤ w.heap.size) :
    Calls Try.prog 12 #[Im.val a, Im.val b] w fun e w' => e = .returned (.bool X) ∧ Below w.heap.size w w' := by
  rw [hX, ← Im.eqB_er ha0 hb0]
  exact implEqIm_any a b B w ha hb hB

set_option maxRecDepth 100000 in
set_option maxHeartbeats 4000000 in
theorem law_eim (a : Im) (b : Im) (w : World) (h_a : Im.E.In w w.heap.size a) (h_b : Im.E.In w w.heap.size b) : Calls Try.prog 4 #[Im.val a, Im.val b] w fun e w' => e = .returned (.bool true) ∧ Below w.heap.size w w' := by
  unfold Im.val
  by_cases hz_a : (a.bulk : Int) ≤ 1048576
  · have hs_a : a.bulk ≤ 1500000 := by omega
    by_cases hz_b : (b.bulk : Int) ≤ 1048576 - (a.bulk : Int)
    · have hs_b : b.bulk ≤ 1500000 := by omega
      obtain ⟨X, hX⟩ : ∃ X, X = Im.eqB a b := ⟨_, rfl⟩
      have HX := Lib.hid hX
      clear hX
      have nq : (X != X) = false := by simp
      have b0 : Below w.heap.size w w := Below.refl _ _
      have i_a := h_a
      have i_b := h_b
      go_enter Try.func4, Try.ntmps4
      go_wp2_with fail
      obtain ⟨w1, hw1⟩ : ∃ W, W = w.alloc (.cells #[.slice a.lA a.l.length a.lC, .int .i64 a.m] 26) := ⟨_, rfl⟩
      rw [← hw1]
      have hb1 : Below w.heap.size w w1 := by rw [hw1]; exact (Below.refl _ _).alloc (Nat.le_refl _) _
      have z1 : w.heap.size + 1 ≤ w1.heap.size := by rw [hw1]; simp
      have y1 : w1.heap.size ≤ w.heap.size + 1 := by rw [hw1]; simp
      have a_a : Im.Box w1 w.heap.size a := by rw [hw1]; exact Im.Box.new _ _ _
      clear hw1
      have b1 := b0.trans (hb1.mono (by omega))
      have i_a := h_a.below b1
      have i_b := h_b.below b1
      clear hb1
      obtain ⟨w2, hw2⟩ : ∃ W, W = w1.alloc (.cells #[.slice b.lA b.l.length b.lC, .int .i64 b.m] 26) := ⟨_, rfl⟩
      rw [← hw2]
      have hb2 : Below w1.heap.size w1 w2 := by rw [hw2]; exact (Below.refl _ _).alloc (Nat.le_refl _) _
      have z2 : w1.heap.size + 1 ≤ w2.heap.size := by rw [hw2]; simp
      have y2 : w2.heap.size ≤ w1.heap.size + 1 := by rw [hw2]; simp
      have a_b : Im.Box w2 w1.heap.size b := by rw [hw2]; exact Im.Box.new _ _ _
      clear hw2
      have a_a := a_a.below hb2 (by omega)
      have b2 := b1.trans (hb2.mono (by omega))
      have i_a := h_a.below b2
      have i_b := h_b.below b2
      clear hb2
      have e_a_b : w1.heap.size = w.heap.size + 1 := by omega
      rw [e_a_b] at a_b
      clear e_a_b
      refine (Im_sz_any a w.heap.size _ 1048576 (by omega) (by omega) i_a (by omega)).mono ?_
      rintro e w3 ⟨rfl, hb3⟩
      have z3 := hb3.size
      have a_a := a_a.below hb3 (by omega)
      have a_b := a_b.below hb3 (by omega)
      have b3 := b2.trans (hb3.mono (by omega))
      have i_a := h_a.below b3
      have i_b := h_b.below b3
      clear hb3
      rw [szR_yes (by omega)]
      have n1_a : ¬ (1048576 - (a.bulk : Int) < 0) := by omega
      have a_aq := a_a
      obtain ⟨a_a_0, a_a_1⟩ := a_aq
      have a_alt : w.heap.size < w3.heap.size := (by omega)
      have a_bq := a_b
      obtain ⟨a_b_0, a_b_1⟩ := a_bq
      have a_blt : w.heap.size + 1 < w3.heap.size := (by omega)
      go_wp2_with fail
      clear a_a_0 a_a_1 a_alt
      clear a_b_0 a_b_1 a_blt
      refine (Im_sz_any b w.heap.size _ (1048576 - (a.bulk : Int)) (by omega) (by omega) i_b (by omega)).mono ?_
      rintro e w4 ⟨rfl, hb4⟩
      have z4 := hb4.size
      have a_a := a_a.below hb4 (by omega)
      have a_b := a_b.below hb4 (by omega)
      have b4 := b3.trans (hb4.mono (by omega))
      have i_a := h_a.below b4
      have i_b := h_b.below b4
      clear hb4
      rw [szR_yes (by omega)]
      have n1_b : ¬ (1048576 - (a.bulk : Int) - (b.bulk : Int) < 0) := by omega
      have a_aq := a_a
      obtain ⟨a_a_0, a_a_1⟩ := a_aq
      have a_alt : w.heap.size < w4.heap.size := (by omega)
      have a_bq := a_b
      obtain ⟨a_b_0, a_b_1⟩ := a_bq
      have a_blt : w.heap.size + 1 < w4.heap.size := (by omega)
      go_wp2_with fail
      clear a_a_0 a_a_1 a_alt
      clear a_b_0 a_b_1 a_blt
      have a_aq := a_a
      obtain ⟨a_a_0, a_a_1⟩ := a_aq
      have a_alt : w.heap.size < w4.heap.size := (by omega)
      have a_bq := a_b
      obtain ⟨a_b_0, a_b_1⟩ := a_bq
      have a_blt : w.heap.size + 1 < w4.heap.size := (by omega)
      have tok0 : True := trivial
      have tok1 : True := trivial
      have tok2 : True := trivial
      go_region_held3 (fun w' => w'.cell? ⟨w.heap.size, 0, none⟩ = some (.slice a.lA a.l.length a.lC) ∧ w'.cell? ⟨w.heap.size, 1, none⟩ = some (.int .i64 a.m) ∧ w'.cell? ⟨w.heap.size + 1, 0, none⟩ = some (.slice b.lA b.l.length b.lC) ∧ w'.cell? ⟨w.heap.size + 1, 1, none⟩ = some (.int .i64 b.m)) (go_keep)
        (first
          | (go_simp; go_at_call 11; have _t := tok0; have hcon := Im_to_any a w.heap.size w4.drew hs_a i_a.drew (show w.heap.size ≤ w4.heap.size by omega); (first | (with_reducible refine hcon.mono ?_) | (simp only [Im.val] at hcon; with_reducible refine hcon.mono ?_)); clear hcon; rintro e w5 ⟨d1_a, rfl, hed1_a, od1_a, hb5⟩; have hb5 : Below w4.heap.size w4 w5 := below_undrew hb5; have z5 : w4.heap.size ≤ w5.heap.size := hb5.size; clear tok0; have Qd1_a := Lib.hid hed1_a; clear hed1_a; clear a_a_0 a_a_1 a_alt; clear a_b_0 a_b_1 a_blt; have a_a := a_a.below hb5 (by omega); have a_b := a_b.below hb5 (by omega); have b5 := b4.trans (hb5.mono (by omega)); have i_a := h_a.below b5; have i_b := h_b.below b5; clear hb5; have a_aq := a_a; obtain ⟨a_a_0, a_a_1⟩ := a_aq; have a_alt : w.heap.size < w5.heap.size := (by omega); have a_bq := a_b; obtain ⟨a_b_0, a_b_1⟩ := a_bq; have a_blt : w.heap.size + 1 < w5.heap.size := (by omega))
          | (go_simp; go_at_call 11; have _t := tok1; have hcon := Im_to_any b w.heap.size w5 hs_b i_b (by omega); (first | (with_reducible refine hcon.mono ?_) | (simp only [Im.val] at hcon; with_reducible refine hcon.mono ?_)); clear hcon; rintro e w6 ⟨d1_b, rfl, hed1_b, od1_b, hb6⟩; have z6 : w5.heap.size ≤ w6.heap.size := hb6.size; clear tok1; have Qd1_b := Lib.hid hed1_b; clear hed1_b; clear a_a_0 a_a_1 a_alt; clear a_b_0 a_b_1 a_blt; have a_a := a_a.below hb6 (by omega); have a_b := a_b.below hb6 (by omega); have od1_a := od1_a.below (hb6.mono (by omega)); have b6 := b5.trans (hb6.mono (by omega)); have i_a := h_a.below b6; have i_b := h_b.below b6; clear hb6; have a_aq := a_a; obtain ⟨a_a_0, a_a_1⟩ := a_aq; have a_alt : w.heap.size < w6.heap.size := (by omega); have a_bq := a_b; obtain ⟨a_b_0, a_b_1⟩ := a_bq; have a_blt : w.heap.size + 1 < w6.heap.size := (by omega))
          | (go_simp; go_at_call 10; have _t := tok2; have hcon := specEqIm_c d1_a d1_b w6.heap.size w6 Qd1_a.out Qd1_b.out HX.out (od1_a.inn.more (by omega)) (od1_b.inn.more (by omega)) (by omega); (first | (with_reducible refine hcon.mono ?_) | (simp only [Im.val] at hcon; with_reducible refine hcon.mono ?_)); clear hcon; rintro e w7 ⟨rfl, hb7⟩; have z7 : w6.heap.size ≤ w7.heap.size := hb7.size; clear tok2; clear a_a_0 a_a_1 a_alt; clear a_b_0 a_b_1 a_blt; have a_a := a_a.below hb7 (by omega); have a_b := a_b.below hb7 (by omega); have od1_a := od1_a.below (hb7.mono (by omega)); have od1_b := od1_b.below (hb7.mono (by omega)); have b7 := b6.trans (hb7.mono (by omega)); have i_a := h_a.below b7; have i_b := h_b.below b7; clear hb7; have a_aq := a_a; obtain ⟨a_a_0, a_a_1⟩ := a_aq; have a_alt : w.heap.size < w7.heap.size := (by omega); have a_bq := a_b; obtain ⟨a_b_0, a_b_1⟩ := a_bq; have a_blt : w.heap.size + 1 < w7.heap.size := (by omega))
          | fail)
      clear a_a_0 a_a_1 a_alt
      clear a_b_0 a_b_1 a_blt
      clear od1_a
      clear od1_b
      have a_aq := a_a
      obtain ⟨a_a_0, a_a_1⟩ := a_aq
      have a_alt : w.heap.size < w7.heap.size := (by omega)
      have a_bq := a_b
      obtain ⟨a_b_0, a_b_1⟩ := a_bq
      have a_blt : w.heap.size + 1 < w7.heap.size := (by omega)
      go_wp2_with fail
      clear a_a_0 a_a_1 a_alt
      clear a_b_0 a_b_1 a_blt
      refine (Im_to_any a w.heap.size _ hs_a i_a (by omega)).mono ?_
      rintro e w8 ⟨x_a, rfl, hex_a, ox_a, hb8⟩
      have z8 := hb8.size
      have a_a := a_a.below hb8 (by omega)
      have a_b := a_b.below hb8 (by omega)
      have b8 := b7.trans (hb8.mono (by omega))
      have i_a := h_a.below b8
      have i_b := h_b.below b8
      clear hb8
      have Qx_a := Lib.hid hex_a
      clear hex_a
      simp only [Im.val]
      have a_aq := a_a
      obtain ⟨a_a_0, a_a_1⟩ := a_aq
      have a_alt : w.heap.size < w8.heap.size := (by omega)
      have a_bq := a_b
      obtain ⟨a_b_0, a_b_1⟩ := a_bq
      have a_blt : w.heap.size + 1 < w8.heap.size := (by omega)
      go_wp2_with fail
      clear a_a_0 a_a_1 a_alt
      clear a_b_0 a_b_1 a_blt
      obtain ⟨w9, hw9⟩ : ∃ W, W = w8.alloc (.cells #[.slice x_a.lA x_a.l.length x_a.lC, .int .i64 x_a.m] 31) := ⟨_, rfl⟩
      rw [← hw9]
      have hb9 : Below w8.heap.size w8 w9 := by rw [hw9]; exact (Below.refl _ _).alloc (Nat.le_refl _) _
      have z9 : w8.heap.size + 1 ≤ w9.heap.size := by rw [hw9]; simp
      have y9 : w9.heap.size ≤ w8.heap.size + 1 := by rw [hw9]; simp
      have xb_a : Im.Box w9 w8.heap.size x_a := by rw [hw9]; exact Im.Box.new _ _ _
      clear hw9
      have a_a := a_a.below hb9 (by omega)
      have a_b := a_b.below hb9 (by omega)
      have ox_a := ox_a.below (hb9.mono (by omega))
      have b9 := b8.trans (hb9.mono (by omega))
      have i_a := h_a.below b9
      have i_b := h_b.below b9
      clear hb9
      refine (Im_to_any b w.heap.size _ hs_b i_b (by omega)).mono ?_
      rintro e w10 ⟨x_b, rfl, hex_b, ox_b, hb10⟩
      have z10 := hb10.size
      have a_a := a_a.below hb10 (by omega)
      have a_b := a_b.below hb10 (by omega)
      have xb_a := xb_a.below hb10 (by omega)
      have ox_a := ox_a.below (hb10.mono (by omega))
      have b10 := b9.trans (hb10.mono (by omega))
      have i_a := h_a.below b10
      have i_b := h_b.below b10
      clear hb10
      have Qx_b := Lib.hid hex_b
      clear hex_b
      simp only [Im.val]
      have a_aq := a_a
      obtain ⟨a_a_0, a_a_1⟩ := a_aq
      have a_alt : w.heap.size < w10.heap.size := (by omega)
      have a_bq := a_b
      obtain ⟨a_b_0, a_b_1⟩ := a_bq
      have a_blt : w.heap.size + 1 < w10.heap.size := (by omega)
      have xb_aq := xb_a
      obtain ⟨xb_a_0, xb_a_1⟩ := xb_aq
      have xb_alt : w8.heap.size < w10.heap.size := (by omega)
      go_wp2_with fail
      clear a_a_0 a_a_1 a_alt
      clear a_b_0 a_b_1 a_blt
      clear xb_a_0 xb_a_1 xb_alt
      obtain ⟨w11, hw11⟩ : ∃ W, W = w10.alloc (.cells #[.slice x_b.lA x_b.l.length x_b.lC, .int .i64 x_b.m] 31) := ⟨_, rfl⟩
      rw [← hw11]
      have hb11 : Below w10.heap.size w10 w11 := by rw [hw11]; exact (Below.refl _ _).alloc (Nat.le_refl _) _
      have z11 : w10.heap.size + 1 ≤ w11.heap.size := by rw [hw11]; simp
      have y11 : w11.heap.size ≤ w10.heap.size + 1 := by rw [hw11]; simp
      have xb_b : Im.Box w11 w10.heap.size x_b := by rw [hw11]; exact Im.Box.new _ _ _
      clear hw11
      have a_a := a_a.below hb11 (by omega)
      have a_b := a_b.below hb11 (by omega)
      have xb_a := xb_a.below hb11 (by omega)
      have ox_a := ox_a.below (hb11.mono (by omega))
      have ox_b := ox_b.below (hb11.mono (by omega))
      have b11 := b10.trans (hb11.mono (by omega))
      have i_a := h_a.below b11
      have i_b := h_b.below b11
      clear hb11
      refine (implEqIm_c x_a x_b w11.heap.size _ Qx_a.out Qx_b.out HX.out (ox_a.inn.more (by omega)) (ox_b.inn.more (by omega)) (by omega)).mono ?_
      rintro e w12 ⟨rfl, hb12⟩
      have z12 := hb12.size
      have a_a := a_a.below hb12 (by omega)
      have a_b := a_b.below hb12 (by omega)
      have xb_a := xb_a.below hb12 (by omega)
      have xb_b := xb_b.below hb12 (by omega)
      have ox_a := ox_a.below (hb12.mono (by omega))
      have ox_b := ox_b.below (hb12.mono (by omega))
      have b12 := b11.trans (hb12.mono (by omega))
      have i_a := h_a.below b12
      have i_b := h_b.below b12
      clear hb12
      have a_aq := a_a
      obtain ⟨a_a_0, a_a_1⟩ := a_aq
      have a_alt : w.heap.size < w12.heap.size := (by omega)
      have a_bq := a_b
      obtain ⟨a_b_0, a_b_1⟩ := a_bq
      have a_blt : w.heap.size + 1 < w12.heap.size := (by omega)
      have xb_aq := xb_a
      obtain ⟨xb_a_0, xb_a_1⟩ := xb_aq
      have xb_alt : w8.heap.size < w12.heap.size := (by omega)
      have xb_bq := xb_b
      obtain ⟨xb_b_0, xb_b_1⟩ := xb_bq
      have xb_blt : w10.heap.size < w12.heap.size := (by omega)
      go_wp2_with fail
      clear a_a_0 a_a_1 a_alt
      clear a_b_0 a_b_1 a_blt
      clear xb_a_0 xb_a_1 xb_alt
      clear xb_b_0 xb_b_1 xb_blt
      have a_aq := a_a
      obtain ⟨a_a_0, a_a_1⟩ := a_aq
      have a_alt : w.heap.size < w12.heap.size := (by omega)
      have a_bq := a_b
      obtain ⟨a_b_0, a_b_1⟩ := a_bq
      have a_blt : w.heap.size + 1 < w12.heap.size := (by omega)
      have xb_aq := xb_a
      obtain ⟨xb_a_0, xb_a_1⟩ := xb_aq
      have xb_alt : w8.heap.size < w12.heap.size := (by omega)
      have xb_bq := xb_b
      obtain ⟨xb_b_0, xb_b_1⟩ := xb_bq
      have xb_blt : w10.heap.size < w12.heap.size := (by omega)
      have tok3 : True := trivial
      have tok4 : True := trivial
      go_region_held3 (fun w' => w'.cell? ⟨w.heap.size, 0, none⟩ = some (.slice a.lA a.l.length a.lC) ∧ w'.cell? ⟨w.heap.size, 1, none⟩ = some (.int .i64 a.m) ∧ w'.cell? ⟨w8.heap.size, 0, none⟩ = some (.slice x_a.lA x_a.l.length x_a.lC) ∧ w'.cell? ⟨w8.heap.size, 1, none⟩ = some (.int .i64 x_a.m)) (go_keep)
        (first
          | (go_at_call 11; have _t := tok3; refine (Im_to_any a w.heap.size _ hs_a ?_ ?_).mono ?_; exact i_a.drew; (show w.heap.size ≤ w12.heap.size); omega; rintro e w13 ⟨y_a, rfl, hey_a, oy_a, hb13⟩; have hb13 : Below w12.heap.size w12 w13 := below_undrew hb13; have z13 : w12.heap.size ≤ w13.heap.size := hb13.size; clear tok3; have Qy_a := Lib.hid hey_a; clear hey_a; have a_a := a_a.below hb13 (by omega); have a_b := a_b.below hb13 (by omega); have xb_a := xb_a.below hb13 (by omega); have xb_b := xb_b.below hb13 (by omega); have ox_a := ox_a.below (hb13.mono (by omega)); have ox_b := ox_b.below (hb13.mono (by omega)); have b13 := b12.trans (hb13.mono (by omega)); have i_a := h_a.below b13; have i_b := h_b.below b13; clear hb13; have a_aq := a_a; obtain ⟨a_a_0, a_a_1⟩ := a_aq; have a_alt : w.heap.size < w13.heap.size := (by omega); have a_bq := a_b; obtain ⟨a_b_0, a_b_1⟩ := a_bq; have a_blt : w.heap.size + 1 < w13.heap.size := (by omega); have xb_aq := xb_a; obtain ⟨xb_a_0, xb_a_1⟩ := xb_aq; have xb_alt : w8.heap.size < w13.heap.size := (by omega); have xb_bq := xb_b; obtain ⟨xb_b_0, xb_b_1⟩ := xb_bq; have xb_blt : w10.heap.size < w13.heap.size := (by omega))
          | (go_at_call 13; have _t := tok4; refine (Im_eq_any x_a y_a w13.heap.size _ (Qx_a.out.trans Qy_a.out.symm) ?_ ?_ ?_).mono ?_; exact ox_a.inn.more (by omega); exact oy_a.inn.more (by omega); omega; rintro e w14 ⟨rfl, hb14⟩; have z14 : w13.heap.size ≤ w14.heap.size := hb14.size; clear tok4; have a_a := a_a.below hb14 (by omega); have a_b := a_b.below hb14 (by omega); have xb_a := xb_a.below hb14 (by omega); have xb_b := xb_b.below hb14 (by omega); have ox_a := ox_a.below (hb14.mono (by omega)); have ox_b := ox_b.below (hb14.mono (by omega)); have b14 := b13.trans (hb14.mono (by omega)); have i_a := h_a.below b14; have i_b := h_b.below b14; clear hb14; have a_aq := a_a; obtain ⟨a_a_0, a_a_1⟩ := a_aq; have a_alt : w.heap.size < w14.heap.size := (by omega); have a_bq := a_b; obtain ⟨a_b_0, a_b_1⟩ := a_bq; have a_blt : w.heap.size + 1 < w14.heap.size := (by omega); have xb_aq := xb_a; obtain ⟨xb_a_0, xb_a_1⟩ := xb_aq; have xb_alt : w8.heap.size < w14.heap.size := (by omega); have xb_bq := xb_b; obtain ⟨xb_b_0, xb_b_1⟩ := xb_bq; have xb_blt : w10.heap.size < w14.heap.size := (by omega)))
      clear a_a_0 a_a_1 a_alt
      clear a_b_0 a_b_1 a_blt
      clear xb_a_0 xb_a_1 xb_alt
      clear xb_b_0 xb_b_1 xb_blt
      clear oy_a
      have a_aq := a_a
      obtain ⟨a_a_0, a_a_1⟩ := a_aq
      have a_alt : w.heap.size < w14.heap.size := (by omega)
      have a_bq := a_b
      obtain ⟨a_b_0, a_b_1⟩ := a_bq
      have a_blt : w.heap.size + 1 < w14.heap.size := (by omega)
      have xb_aq := xb_a
      obtain ⟨xb_a_0, xb_a_1⟩ := xb_aq
      have xb_alt : w8.heap.size < w14.heap.size := (by omega)
      have xb_bq := xb_b
      obtain ⟨xb_b_0, xb_b_1⟩ := xb_bq
      have xb_blt : w10.heap.size < w14.heap.size := (by omega)
      go_wp2_with fail
      clear a_a_0 a_a_1 a_alt
      clear a_b_0 a_b_1 a_blt
      clear xb_a_0 xb_a_1 xb_alt
      clear xb_b_0 xb_b_1 xb_blt
      have a_aq := a_a
      obtain ⟨a_a_0, a_a_1⟩ := a_aq
      have a_alt : w.heap.size < w14.heap.size := (by omega)
      have a_bq := a_b
      obtain ⟨a_b_0, a_b_1⟩ := a_bq
      have a_blt : w.heap.size + 1 < w14.heap.size := (by omega)
      have xb_aq := xb_a
      obtain ⟨xb_a_0, xb_a_1⟩ := xb_aq
      have xb_alt : w8.heap.size < w14.heap.size := (by omega)
      have xb_bq := xb_b
      obtain ⟨xb_b_0, xb_b_1⟩ := xb_bq
      have xb_blt : w10.heap.size < w14.heap.size := (by omega)
      have tok5 : True := trivial
      have tok6 : True := trivial
      go_region_held3 (fun w' => w'.cell? ⟨w.heap.size + 1, 0, none⟩ = some (.slice b.lA b.l.length b.lC) ∧ w'.cell? ⟨w.heap.size + 1, 1, none⟩ = some (.int .i64 b.m) ∧ w'.cell? ⟨w10.heap.size, 0, none⟩ = some (.slice x_b.lA x_b.l.length x_b.lC) ∧ w'.cell? ⟨w10.heap.size, 1, none⟩ = some (.int .i64 x_b.m)) (go_keep)
        (first
          | (go_at_call 11; have _t := tok5; refine (Im_to_any b w.heap.size _ hs_b ?_ ?_).mono ?_; exact i_b.drew; (show w.heap.size ≤ w14.heap.size); omega; rintro e w15 ⟨y_b, rfl, hey_b, oy_b, hb15⟩; have hb15 : Below w14.heap.size w14 w15 := below_undrew hb15; have z15 : w14.heap.size ≤ w15.heap.size := hb15.size; clear tok5; have Qy_b := Lib.hid hey_b; clear hey_b; have a_a := a_a.below hb15 (by omega); have a_b := a_b.below hb15 (by omega); have xb_a := xb_a.below hb15 (by omega); have xb_b := xb_b.below hb15 (by omega); have ox_a := ox_a.below (hb15.mono (by omega)); have ox_b := ox_b.below (hb15.mono (by omega)); have b15 := b14.trans (hb15.mono (by omega)); have i_a := h_a.below b15; have i_b := h_b.below b15; clear hb15; have a_aq := a_a; obtain ⟨a_a_0, a_a_1⟩ := a_aq; have a_alt : w.heap.size < w15.heap.size := (by omega); have a_bq := a_b; obtain ⟨a_b_0, a_b_1⟩ := a_bq; have a_blt : w.heap.size + 1 < w15.heap.size := (by omega); have xb_aq := xb_a; obtain ⟨xb_a_0, xb_a_1⟩ := xb_aq; have xb_alt : w8.heap.size < w15.heap.size := (by omega); have xb_bq := xb_b; obtain ⟨xb_b_0, xb_b_1⟩ := xb_bq; have xb_blt : w10.heap.size < w15.heap.size := (by omega))
          | (go_at_call 13; have _t := tok6; refine (Im_eq_any x_b y_b w15.heap.size _ (Qx_b.out.trans Qy_b.out.symm) ?_ ?_ ?_).mono ?_; exact ox_b.inn.more (by omega); exact oy_b.inn.more (by omega); omega; rintro e w16 ⟨rfl, hb16⟩; have z16 : w15.heap.size ≤ w16.heap.size := hb16.size; clear tok6; have a_a := a_a.below hb16 (by omega); have a_b := a_b.below hb16 (by omega); have xb_a := xb_a.below hb16 (by omega); have xb_b := xb_b.below hb16 (by omega); have ox_a := ox_a.below (hb16.mono (by omega)); have ox_b := ox_b.below (hb16.mono (by omega)); have b16 := b15.trans (hb16.mono (by omega)); have i_a := h_a.below b16; have i_b := h_b.below b16; clear hb16; have a_aq := a_a; obtain ⟨a_a_0, a_a_1⟩ := a_aq; have a_alt : w.heap.size < w16.heap.size := (by omega); have a_bq := a_b; obtain ⟨a_b_0, a_b_1⟩ := a_bq; have a_blt : w.heap.size + 1 < w16.heap.size := (by omega); have xb_aq := xb_a; obtain ⟨xb_a_0, xb_a_1⟩ := xb_aq; have xb_alt : w8.heap.size < w16.heap.size := (by omega); have xb_bq := xb_b; obtain ⟨xb_b_0, xb_b_1⟩ := xb_bq; have xb_blt : w10.heap.size < w16.heap.size := (by omega)))
      clear a_a_0 a_a_1 a_alt
      clear a_b_0 a_b_1 a_blt
      clear xb_a_0 xb_a_1 xb_alt
      clear xb_b_0 xb_b_1 xb_blt
      clear oy_b
      have a_aq := a_a
      obtain ⟨a_a_0, a_a_1⟩ := a_aq
      have a_alt : w.heap.size < w16.heap.size := (by omega)
      have a_bq := a_b
      obtain ⟨a_b_0, a_b_1⟩ := a_bq
      have a_blt : w.heap.size + 1 < w16.heap.size := (by omega)
      have xb_aq := xb_a
      obtain ⟨xb_a_0, xb_a_1⟩ := xb_aq
      have xb_alt : w8.heap.size < w16.heap.size := (by omega)
      have xb_bq := xb_b
      obtain ⟨xb_b_0, xb_b_1⟩ := xb_bq
      have xb_blt : w10.heap.size < w16.heap.size := (by omega)
      go_wp2_with fail
      clear a_a_0 a_a_1 a_alt
      clear a_b_0 a_b_1 a_blt
      clear xb_a_0 xb_a_1 xb_alt
      clear xb_b_0 xb_b_1 xb_blt
      go_ret
      exact ⟨rfl, b16⟩
    · have b0 : Below w.heap.size w w := Below.refl _ _
      have i_a := h_a
      have i_b := h_b
      go_enter Try.func4, Try.ntmps4
      go_wp2_with fail
      obtain ⟨w1, hw1⟩ : ∃ W, W = w.alloc (.cells #[.slice a.lA a.l.length a.lC, .int .i64 a.m] 26) := ⟨_, rfl⟩
      rw [← hw1]
      have hb1 : Below w.heap.size w w1 := by rw [hw1]; exact (Below.refl _ _).alloc (Nat.le_refl _) _
      have z1 : w.heap.size + 1 ≤ w1.heap.size := by rw [hw1]; simp
      have y1 : w1.heap.size ≤ w.heap.size + 1 := by rw [hw1]; simp
      have a_a : Im.Box w1 w.heap.size a := by rw [hw1]; exact Im.Box.new _ _ _
      clear hw1
      have b1 := b0.trans (hb1.mono (by omega))
      have i_a := h_a.below b1
      have i_b := h_b.below b1
      clear hb1
      obtain ⟨w2, hw2⟩ : ∃ W, W = w1.alloc (.cells #[.slice b.lA b.l.length b.lC, .int .i64 b.m] 26) := ⟨_, rfl⟩
      rw [← hw2]
      have hb2 : Below w1.heap.size w1 w2 := by rw [hw2]; exact (Below.refl _ _).alloc (Nat.le_refl _) _
      have z2 : w1.heap.size + 1 ≤ w2.heap.size := by rw [hw2]; simp
      have y2 : w2.heap.size ≤ w1.heap.size + 1 := by rw [hw2]; simp
      have a_b : Im.Box w2 w1.heap.size b := by rw [hw2]; exact Im.Box.new _ _ _
      clear hw2
      have a_a := a_a.below hb2 (by omega)
      have b2 := b1.trans (hb2.mono (by omega))
      have i_a := h_a.below b2
      have i_b := h_b.below b2
      clear hb2
      have e_a_b : w1.heap.size = w.heap.size + 1 := by omega
      rw [e_a_b] at a_b
      clear e_a_b
      refine (Im_sz_any a w.heap.size _ 1048576 (by omega) (by omega) i_a (by omega)).mono ?_
      rintro e w3 ⟨rfl, hb3⟩
      have z3 := hb3.size
      have a_a := a_a.below hb3 (by omega)
      have a_b := a_b.below hb3 (by omega)
      have b3 := b2.trans (hb3.mono (by omega))
      have i_a := h_a.below b3
      have i_b := h_b.below b3
      clear hb3
      rw [szR_yes (by omega)]
      have n1_a : ¬ (1048576 - (a.bulk : Int) < 0) := by omega
      have a_aq := a_a
      obtain ⟨a_a_0, a_a_1⟩ := a_aq
      have a_alt : w.heap.size < w3.heap.size := (by omega)
      have a_bq := a_b
      obtain ⟨a_b_0, a_b_1⟩ := a_bq
      have a_blt : w.heap.size + 1 < w3.heap.size := (by omega)
      go_wp2_with fail
      clear a_a_0 a_a_1 a_alt
      clear a_b_0 a_b_1 a_blt
      refine (Im_sz_any b w.heap.size _ (1048576 - (a.bulk : Int)) (by omega) (by omega) i_b (by omega)).mono ?_
      rintro e w4 ⟨rfl, hb4⟩
      have z4 := hb4.size
      have a_a := a_a.below hb4 (by omega)
      have a_b := a_b.below hb4 (by omega)
      have b4 := b3.trans (hb4.mono (by omega))
      have i_a := h_a.below b4
      have i_b := h_b.below b4
      clear hb4
      rw [szR_no (by omega)]
      have a_aq := a_a
      obtain ⟨a_a_0, a_a_1⟩ := a_aq
      have a_alt : w.heap.size < w4.heap.size := (by omega)
      have a_bq := a_b
      obtain ⟨a_b_0, a_b_1⟩ := a_bq
      have a_blt : w.heap.size + 1 < w4.heap.size := (by omega)
      go_wp2_with fail
      clear a_a_0 a_a_1 a_alt
      clear a_b_0 a_b_1 a_blt
      go_ret
      exact ⟨rfl, b4⟩
  · have b0 : Below w.heap.size w w := Below.refl _ _
    have i_a := h_a
    have i_b := h_b
    go_enter Try.func4, Try.ntmps4
    go_wp2_with fail
    obtain ⟨w1, hw1⟩ : ∃ W, W = w.alloc (.cells #[.slice a.lA a.l.length a.lC, .int .i64 a.m] 26) := ⟨_, rfl⟩
    rw [← hw1]
    have hb1 : Below w.heap.size w w1 := by rw [hw1]; exact (Below.refl _ _).alloc (Nat.le_refl _) _
    have z1 : w.heap.size + 1 ≤ w1.heap.size := by rw [hw1]; simp
    have y1 : w1.heap.size ≤ w.heap.size + 1 := by rw [hw1]; simp
    have a_a : Im.Box w1 w.heap.size a := by rw [hw1]; exact Im.Box.new _ _ _
    clear hw1
    have b1 := b0.trans (hb1.mono (by omega))
    have i_a := h_a.below b1
    have i_b := h_b.below b1
    clear hb1
    obtain ⟨w2, hw2⟩ : ∃ W, W = w1.alloc (.cells #[.slice b.lA b.l.length b.lC, .int .i64 b.m] 26) := ⟨_, rfl⟩
    rw [← hw2]
    have hb2 : Below w1.heap.size w1 w2 := by rw [hw2]; exact (Below.refl _ _).alloc (Nat.le_refl _) _
    have z2 : w1.heap.size + 1 ≤ w2.heap.size := by rw [hw2]; simp
    have y2 : w2.heap.size ≤ w1.heap.size + 1 := by rw [hw2]; simp
    have a_b : Im.Box w2 w1.heap.size b := by rw [hw2]; exact Im.Box.new _ _ _
    clear hw2
    have a_a := a_a.below hb2 (by omega)
    have b2 := b1.trans (hb2.mono (by omega))
    have i_a := h_a.below b2
    have i_b := h_b.below b2
    clear hb2
    have e_a_b : w1.heap.size = w.heap.size + 1 := by omega
    rw [e_a_b] at a_b
    clear e_a_b
    refine (Im_sz_any a w.heap.size _ 1048576 (by omega) (by omega) i_a (by omega)).mono ?_
    rintro e w3 ⟨rfl, hb3⟩
    have z3 := hb3.size
    have a_a := a_a.below hb3 (by omega)
    have a_b := a_b.below hb3 (by omega)
    have b3 := b2.trans (hb3.mono (by omega))
    have i_a := h_a.below b3
    have i_b := h_b.below b3
    clear hb3
    rw [szR_no (by omega)]
    have a_aq := a_a
    obtain ⟨a_a_0, a_a_1⟩ := a_aq
    have a_alt : w.heap.size < w3.heap.size := (by omega)
    have a_bq := a_b
    obtain ⟨a_b_0, a_b_1⟩ := a_bq
    have a_blt : w.heap.size + 1 < w3.heap.size := (by omega)
    go_wp2_with fail
    clear a_a_0 a_a_1 a_alt
    clear a_b_0 a_b_1 a_blt
    go_ret
    exact ⟨rfl, b3⟩
end Go.Proofs.Ytpigpncbjckbcaa
