/-
  The law on AddBinding, walked.
-/
import Derived.Test.YtikjipkhebedfaaAddC
import Derived.Test.YtikjipkhebedfaaBindM
import Derived.Deep.RegionHeld3
namespace Go.Proofs.Ytikjipkhebedfaa
open Go.RowKit

set_option maxRecDepth 100000 in
set_option maxHeartbeats 4000000 in
theorem law_addb (A_a : Option Addr) (c_a : Nat) (a : List Bd) (b : Bd) (w : World) (h_a : Bd.E.LIn w w.heap.size A_a c_a a) (h_b : b.In w w.heap.size) : Calls Try.prog 4 #[.slice A_a a.length c_a, b.val] w fun e w' => e = .returned (.bool true) ∧ Below w.heap.size w w' := by
  unfold Bd.val
  by_cases hz_a : (Bd.bulkL a : Int) ≤ 1048576
  · have hs_a : Bd.bulkL a ≤ 2000000 := by omega
    by_cases hz_b : (b.bulk : Int) ≤ 1048576 - (Bd.bulkL a : Int)
    · have hs_b : b.s.length ≤ 2000000 := by unfold Bd.bulk at hz_b; omega
      obtain ⟨X, hX⟩ : ∃ X, X = Bd.areB (a ++ [b]) := ⟨_, rfl⟩
      obtain ⟨Y, hY⟩ : ∃ Y, Y = Bd.addL a b := ⟨_, rfl⟩
      have hYs : ∀ x, Bd.erL x = Y → Bd.bulkL x ≤ 2000000 := fun x h => Bd.addL_bulk (h.trans hY) (by omega)
      have nq : (X != X) = false := by simp
      have b0 : Below w.heap.size w w := Below.refl _ _
      have i_a := h_a
      have i_b := h_b
      go_enter Try.func4, Try.ntmps4
      go_wp2_with fail
      obtain ⟨w1, hw1⟩ : ∃ W, W = w.alloc (.cells #[.string b.t, .slice b.sa b.s.length b.sc, .int .i64 b.k, .int .i64 b.n] 36) := ⟨_, rfl⟩
      rw [← hw1]
      have hb1 : Below w.heap.size w w1 := by rw [hw1]; exact (Below.refl _ _).alloc (Nat.le_refl _) _
      have z1 : w.heap.size + 1 ≤ w1.heap.size := by rw [hw1]; simp
      have y1 : w1.heap.size ≤ w.heap.size + 1 := by rw [hw1]; simp
      have a_b : Bd.Box w1 w.heap.size b := by rw [hw1]; exact Bd.Box.new _ _ _
      clear hw1
      have b1 := b0.trans (hb1.mono (by omega))
      have i_a := h_a.below b1
      have i_b := h_b.below b1
      clear hb1
      refine (szBdL_any A_a c_a a w.heap.size _ 1048576 h_a.cap (by omega) (by omega) i_a (by omega)).mono ?_
      rintro e w2 ⟨rfl, hb2⟩
      have z2 := hb2.size
      have a_b := a_b.below hb2 (by omega)
      have b2 := b1.trans (hb2.mono (by omega))
      have i_a := h_a.below b2
      have i_b := h_b.below b2
      clear hb2
      rw [szR_yes (by omega)]
      have n1_a : ¬ (1048576 - (Bd.bulkL a : Int) < 0) := by omega
      have a_bq := a_b
      obtain ⟨a_b_0, a_b_1, a_b_2, a_b_3⟩ := a_bq
      have a_blt : w.heap.size < w2.heap.size := (by omega)
      go_wp2_with fail
      clear a_b_0 a_b_1 a_b_2 a_b_3 a_blt
      refine (szBd_any b w.heap.size _ (1048576 - (Bd.bulkL a : Int)) (by omega) (by omega) i_b (by omega)).mono ?_
      rintro e w3 ⟨rfl, hb3⟩
      have z3 := hb3.size
      have a_b := a_b.below hb3 (by omega)
      have b3 := b2.trans (hb3.mono (by omega))
      have i_a := h_a.below b3
      have i_b := h_b.below b3
      clear hb3
      rw [szR_yes (by omega)]
      have n1_b : ¬ (1048576 - (Bd.bulkL a : Int) - (b.bulk : Int) < 0) := by omega
      have a_bq := a_b
      obtain ⟨a_b_0, a_b_1, a_b_2, a_b_3⟩ := a_bq
      have a_blt : w.heap.size < w3.heap.size := (by omega)
      go_wp2_with fail
      clear a_b_0 a_b_1 a_b_2 a_b_3 a_blt
      have a_bq := a_b
      obtain ⟨a_b_0, a_b_1, a_b_2, a_b_3⟩ := a_bq
      have a_blt : w.heap.size < w3.heap.size := (by omega)
      have tok0 : True := trivial
      have tok1 : True := trivial
      have tok2 : True := trivial
      go_region_held3 (fun w' => w'.cell? ⟨w.heap.size, 0, none⟩ = some (.string b.t) ∧ w'.cell? ⟨w.heap.size, 1, none⟩ = some (.slice b.sa b.s.length b.sc) ∧ w'.cell? ⟨w.heap.size, 2, none⟩ = some (.int .i64 b.k) ∧ w'.cell? ⟨w.heap.size, 3, none⟩ = some (.int .i64 b.n)) (go_keep)
        (first
          | (go_simp; go_at_call 23; have _t := tok0; have hcon := toBdL_any A_a c_a a w.heap.size w3.drew hs_a i_a.drew (show w.heap.size ≤ w3.heap.size by omega); (with_reducible refine hcon.mono ?_); clear hcon; rintro e w4 ⟨d1_aA, d1_ac, d1_a, rfl, hed1_a, od1_a, hb4⟩; have hb4 : Below w3.heap.size w3 w4 := below_undrew hb4; have z4 : w3.heap.size ≤ w4.heap.size := hb4.size; clear tok0; have Qd1_a := Lib.hid hed1_a; have sd1_a : Bd.bulkL d1_a ≤ 2000000 := (by rw [← Bd.bulkL_er, Qd1_a.out, Bd.bulkL_er]; exact hs_a); clear hed1_a; clear a_b_0 a_b_1 a_b_2 a_b_3 a_blt; have a_b := a_b.below hb4 (by omega); have b4 := b3.trans (hb4.mono (by omega)); have i_a := h_a.below b4; have i_b := h_b.below b4; clear hb4; have a_bq := a_b; obtain ⟨a_b_0, a_b_1, a_b_2, a_b_3⟩ := a_bq; have a_blt : w.heap.size < w4.heap.size := (by omega))
          | (go_simp; go_at_call 24; have _t := tok1; have hcon := toBd_any b w.heap.size w4 hs_b i_b (by omega); (first | (with_reducible refine hcon.mono ?_) | (simp only [Bd.val] at hcon; with_reducible refine hcon.mono ?_)); clear hcon; rintro e w5 ⟨d1_b, rfl, hed1_b, od1_b, hb5⟩; have z5 : w4.heap.size ≤ w5.heap.size := hb5.size; clear tok1; have Qd1_b := Lib.hid hed1_b; have sd1_b : d1_b.s.length ≤ 2000000 := (by rw [(Bd.fields_of_er Qd1_b.out).2.1]; exact hs_b); clear hed1_b; clear a_b_0 a_b_1 a_b_2 a_b_3 a_blt; have a_b := a_b.below hb5 (by omega); have od1_a := od1_a.below (hb5.mono (by omega)); have b5 := b4.trans (hb5.mono (by omega)); have i_a := h_a.below b5; have i_b := h_b.below b5; clear hb5; have a_bq := a_b; obtain ⟨a_b_0, a_b_1, a_b_2, a_b_3⟩ := a_bq; have a_blt : w.heap.size < w5.heap.size := (by omega))
          | (go_simp; go_at_call 22; have _t := tok2; have hcon := specAdd_c d1_aA d1_ac d1_a d1_b w5.heap.size w5 Qd1_a.out Qd1_b.out hX hY hs_a (by omega) (od1_a.inn.more (by omega)) (od1_b.inn.more (by omega)) (by omega); (first | (with_reducible refine hcon.mono ?_) | (simp only [Bd.val] at hcon; with_reducible refine hcon.mono ?_)); clear hcon; rintro e w6 ⟨vvA, vvc, vv, rfl, hevv, ovv, hb6⟩; have z6 : w5.heap.size ≤ w6.heap.size := hb6.size; clear tok2; have Qvv := Lib.hid hevv; have svv : Bd.bulkL vv ≤ 2000000 := hYs vv Qvv.out; clear hevv; clear a_b_0 a_b_1 a_b_2 a_b_3 a_blt; have a_b := a_b.below hb6 (by omega); have od1_a := od1_a.below (hb6.mono (by omega)); have od1_b := od1_b.below (hb6.mono (by omega)); have b6 := b5.trans (hb6.mono (by omega)); have i_a := h_a.below b6; have i_b := h_b.below b6; clear hb6; have a_bq := a_b; obtain ⟨a_b_0, a_b_1, a_b_2, a_b_3⟩ := a_bq; have a_blt : w.heap.size < w6.heap.size := (by omega))
          | fail)
      clear a_b_0 a_b_1 a_b_2 a_b_3 a_blt
      clear od1_a
      clear od1_b
      have a_bq := a_b
      obtain ⟨a_b_0, a_b_1, a_b_2, a_b_3⟩ := a_bq
      have a_blt : w.heap.size < w6.heap.size := (by omega)
      go_wp2_with fail
      clear a_b_0 a_b_1 a_b_2 a_b_3 a_blt
      refine (toBdL_any A_a c_a a w.heap.size _ hs_a i_a (by omega)).mono ?_
      rintro e w7 ⟨x_aA, x_ac, x_a, rfl, hex_a, ox_a, hb7⟩
      have z7 := hb7.size
      have a_b := a_b.below hb7 (by omega)
      have ovv := ovv.below (hb7.mono (by omega))
      have b7 := b6.trans (hb7.mono (by omega))
      have i_a := h_a.below b7
      have i_b := h_b.below b7
      clear hb7
      have Qx_a := Lib.hid hex_a
      have sx_a : Bd.bulkL x_a ≤ 2000000 := (by rw [← Bd.bulkL_er, Qx_a.out, Bd.bulkL_er]; exact hs_a)
      clear hex_a
      have a_bq := a_b
      obtain ⟨a_b_0, a_b_1, a_b_2, a_b_3⟩ := a_bq
      have a_blt : w.heap.size < w7.heap.size := (by omega)
      go_wp2_with fail
      clear a_b_0 a_b_1 a_b_2 a_b_3 a_blt
      refine (toBd_any b w.heap.size _ hs_b i_b (by omega)).mono ?_
      rintro e w8 ⟨x_b, rfl, hex_b, ox_b, hb8⟩
      have z8 := hb8.size
      have a_b := a_b.below hb8 (by omega)
      have ovv := ovv.below (hb8.mono (by omega))
      have ox_a := ox_a.below (hb8.mono (by omega))
      have b8 := b7.trans (hb8.mono (by omega))
      have i_a := h_a.below b8
      have i_b := h_b.below b8
      clear hb8
      have Qx_b := Lib.hid hex_b
      have sx_b : x_b.s.length ≤ 2000000 := (by rw [(Bd.fields_of_er Qx_b.out).2.1]; exact hs_b)
      clear hex_b
      simp only [Bd.val]
      have a_bq := a_b
      obtain ⟨a_b_0, a_b_1, a_b_2, a_b_3⟩ := a_bq
      have a_blt : w.heap.size < w8.heap.size := (by omega)
      go_wp2_with fail
      clear a_b_0 a_b_1 a_b_2 a_b_3 a_blt
      obtain ⟨w9, hw9⟩ : ∃ W, W = w8.alloc (.cells #[.string x_b.t, .slice x_b.sa x_b.s.length x_b.sc, .int .i64 x_b.k, .int .i64 x_b.n] 43) := ⟨_, rfl⟩
      rw [← hw9]
      have hb9 : Below w8.heap.size w8 w9 := by rw [hw9]; exact (Below.refl _ _).alloc (Nat.le_refl _) _
      have z9 : w8.heap.size + 1 ≤ w9.heap.size := by rw [hw9]; simp
      have y9 : w9.heap.size ≤ w8.heap.size + 1 := by rw [hw9]; simp
      have xb_b : Bd.Box w9 w8.heap.size x_b := by rw [hw9]; exact Bd.Box.new _ _ _
      clear hw9
      have a_b := a_b.below hb9 (by omega)
      have ovv := ovv.below (hb9.mono (by omega))
      have ox_a := ox_a.below (hb9.mono (by omega))
      have ox_b := ox_b.below (hb9.mono (by omega))
      have b9 := b8.trans (hb9.mono (by omega))
      have i_a := h_a.below b9
      have i_b := h_b.below b9
      clear hb9
      refine (implAdd_c x_aA x_ac x_a x_b w9.heap.size _ Qx_a.out Qx_b.out hX hY hs_a (by omega) (ox_a.inn.more (by omega)) (ox_b.inn.more (by omega)) (by omega)).mono ?_
      rintro e w10 ⟨gvA, gvc, gv, rfl, hegv, ogv, hb10⟩
      have z10 := hb10.size
      have a_b := a_b.below hb10 (by omega)
      have xb_b := xb_b.below hb10 (by omega)
      have ovv := ovv.below (hb10.mono (by omega))
      have ox_a := ox_a.below (hb10.mono (by omega))
      have ox_b := ox_b.below (hb10.mono (by omega))
      have b10 := b9.trans (hb10.mono (by omega))
      have i_a := h_a.below b10
      have i_b := h_b.below b10
      clear hb10
      have Qgv := Lib.hid hegv
      have sgv : Bd.bulkL gv ≤ 2000000 := hYs gv Qgv.out
      clear hegv
      have a_bq := a_b
      obtain ⟨a_b_0, a_b_1, a_b_2, a_b_3⟩ := a_bq
      have a_blt : w.heap.size < w10.heap.size := (by omega)
      have xb_bq := xb_b
      obtain ⟨xb_b_0, xb_b_1, xb_b_2, xb_b_3⟩ := xb_bq
      have xb_blt : w8.heap.size < w10.heap.size := (by omega)
      go_wp2_with fail
      clear a_b_0 a_b_1 a_b_2 a_b_3 a_blt
      clear xb_b_0 xb_b_1 xb_b_2 xb_b_3 xb_blt
      refine (eqBdL_any gvA gvc gv vvA vvc vv w10.heap.size _ (Qgv.out.trans Qvv.out.symm) (ogv.inn.more (by omega)) (ovv.inn.more (by omega)) (by omega)).mono ?_
      rintro e w11 ⟨rfl, hb11⟩
      have z11 := hb11.size
      have a_b := a_b.below hb11 (by omega)
      have xb_b := xb_b.below hb11 (by omega)
      have ovv := ovv.below (hb11.mono (by omega))
      have ox_a := ox_a.below (hb11.mono (by omega))
      have ox_b := ox_b.below (hb11.mono (by omega))
      have ogv := ogv.below (hb11.mono (by omega))
      have b11 := b10.trans (hb11.mono (by omega))
      have i_a := h_a.below b11
      have i_b := h_b.below b11
      clear hb11
      have a_bq := a_b
      obtain ⟨a_b_0, a_b_1, a_b_2, a_b_3⟩ := a_bq
      have a_blt : w.heap.size < w11.heap.size := (by omega)
      have xb_bq := xb_b
      obtain ⟨xb_b_0, xb_b_1, xb_b_2, xb_b_3⟩ := xb_bq
      have xb_blt : w8.heap.size < w11.heap.size := (by omega)
      go_wp2_with fail
      clear a_b_0 a_b_1 a_b_2 a_b_3 a_blt
      clear xb_b_0 xb_b_1 xb_b_2 xb_b_3 xb_blt
      refine (toBdL_any A_a c_a a w.heap.size _ hs_a i_a (by omega)).mono ?_
      rintro e w12 ⟨y_aA, y_ac, y_a, rfl, hey_a, oy_a, hb12⟩
      have z12 := hb12.size
      have a_b := a_b.below hb12 (by omega)
      have xb_b := xb_b.below hb12 (by omega)
      have ovv := ovv.below (hb12.mono (by omega))
      have ox_a := ox_a.below (hb12.mono (by omega))
      have ox_b := ox_b.below (hb12.mono (by omega))
      have ogv := ogv.below (hb12.mono (by omega))
      have b12 := b11.trans (hb12.mono (by omega))
      have i_a := h_a.below b12
      have i_b := h_b.below b12
      clear hb12
      have Qy_a := Lib.hid hey_a
      clear hey_a
      have a_bq := a_b
      obtain ⟨a_b_0, a_b_1, a_b_2, a_b_3⟩ := a_bq
      have a_blt : w.heap.size < w12.heap.size := (by omega)
      have xb_bq := xb_b
      obtain ⟨xb_b_0, xb_b_1, xb_b_2, xb_b_3⟩ := xb_bq
      have xb_blt : w8.heap.size < w12.heap.size := (by omega)
      go_wp2_with fail
      clear a_b_0 a_b_1 a_b_2 a_b_3 a_blt
      clear xb_b_0 xb_b_1 xb_b_2 xb_b_3 xb_blt
      refine (eqBdL_any x_aA x_ac x_a y_aA y_ac y_a w12.heap.size _ (Qx_a.out.trans Qy_a.out.symm) (ox_a.inn.more (by omega)) (oy_a.inn.more (by omega)) (by omega)).mono ?_
      rintro e w13 ⟨rfl, hb13⟩
      have z13 := hb13.size
      have a_b := a_b.below hb13 (by omega)
      have xb_b := xb_b.below hb13 (by omega)
      have ovv := ovv.below (hb13.mono (by omega))
      have ox_a := ox_a.below (hb13.mono (by omega))
      have ox_b := ox_b.below (hb13.mono (by omega))
      have ogv := ogv.below (hb13.mono (by omega))
      have oy_a := oy_a.below (hb13.mono (by omega))
      have b13 := b12.trans (hb13.mono (by omega))
      have i_a := h_a.below b13
      have i_b := h_b.below b13
      clear hb13
      clear oy_a
      have a_bq := a_b
      obtain ⟨a_b_0, a_b_1, a_b_2, a_b_3⟩ := a_bq
      have a_blt : w.heap.size < w13.heap.size := (by omega)
      have xb_bq := xb_b
      obtain ⟨xb_b_0, xb_b_1, xb_b_2, xb_b_3⟩ := xb_bq
      have xb_blt : w8.heap.size < w13.heap.size := (by omega)
      go_wp2_with fail
      clear a_b_0 a_b_1 a_b_2 a_b_3 a_blt
      clear xb_b_0 xb_b_1 xb_b_2 xb_b_3 xb_blt
      have a_bq := a_b
      obtain ⟨a_b_0, a_b_1, a_b_2, a_b_3⟩ := a_bq
      have a_blt : w.heap.size < w13.heap.size := (by omega)
      have xb_bq := xb_b
      obtain ⟨xb_b_0, xb_b_1, xb_b_2, xb_b_3⟩ := xb_bq
      have xb_blt : w8.heap.size < w13.heap.size := (by omega)
      have tok3 : True := trivial
      have tok4 : True := trivial
      go_region_held3 (fun w' => w'.cell? ⟨w.heap.size, 0, none⟩ = some (.string b.t) ∧ w'.cell? ⟨w.heap.size, 1, none⟩ = some (.slice b.sa b.s.length b.sc) ∧ w'.cell? ⟨w.heap.size, 2, none⟩ = some (.int .i64 b.k) ∧ w'.cell? ⟨w.heap.size, 3, none⟩ = some (.int .i64 b.n) ∧ w'.cell? ⟨w8.heap.size, 0, none⟩ = some (.string x_b.t) ∧ w'.cell? ⟨w8.heap.size, 1, none⟩ = some (.slice x_b.sa x_b.s.length x_b.sc) ∧ w'.cell? ⟨w8.heap.size, 2, none⟩ = some (.int .i64 x_b.k) ∧ w'.cell? ⟨w8.heap.size, 3, none⟩ = some (.int .i64 x_b.n)) (go_keep)
        (first
          | (go_at_call 24; have _t := tok3; refine (toBd_any b w.heap.size _ hs_b ?_ ?_).mono ?_; exact i_b.drew; (show w.heap.size ≤ w13.heap.size); omega; rintro e w14 ⟨y_b, rfl, hey_b, oy_b, hb14⟩; have hb14 : Below w13.heap.size w13 w14 := below_undrew hb14; have z14 : w13.heap.size ≤ w14.heap.size := hb14.size; clear tok3; have Qy_b := Lib.hid hey_b; clear hey_b; have a_b := a_b.below hb14 (by omega); have xb_b := xb_b.below hb14 (by omega); have ovv := ovv.below (hb14.mono (by omega)); have ox_a := ox_a.below (hb14.mono (by omega)); have ox_b := ox_b.below (hb14.mono (by omega)); have ogv := ogv.below (hb14.mono (by omega)); have b14 := b13.trans (hb14.mono (by omega)); have i_a := h_a.below b14; have i_b := h_b.below b14; clear hb14; have a_bq := a_b; obtain ⟨a_b_0, a_b_1, a_b_2, a_b_3⟩ := a_bq; have a_blt : w.heap.size < w14.heap.size := (by omega); have xb_bq := xb_b; obtain ⟨xb_b_0, xb_b_1, xb_b_2, xb_b_3⟩ := xb_bq; have xb_blt : w8.heap.size < w14.heap.size := (by omega))
          | (go_at_call 27; have _t := tok4; refine (eqBd_any x_b y_b w14.heap.size _ (Qx_b.out.trans Qy_b.out.symm) ?_ ?_ ?_).mono ?_; exact ox_b.inn.more (by omega); exact oy_b.inn.more (by omega); omega; rintro e w15 ⟨rfl, hb15⟩; have z15 : w14.heap.size ≤ w15.heap.size := hb15.size; clear tok4; have a_b := a_b.below hb15 (by omega); have xb_b := xb_b.below hb15 (by omega); have ovv := ovv.below (hb15.mono (by omega)); have ox_a := ox_a.below (hb15.mono (by omega)); have ox_b := ox_b.below (hb15.mono (by omega)); have ogv := ogv.below (hb15.mono (by omega)); have b15 := b14.trans (hb15.mono (by omega)); have i_a := h_a.below b15; have i_b := h_b.below b15; clear hb15; have a_bq := a_b; obtain ⟨a_b_0, a_b_1, a_b_2, a_b_3⟩ := a_bq; have a_blt : w.heap.size < w15.heap.size := (by omega); have xb_bq := xb_b; obtain ⟨xb_b_0, xb_b_1, xb_b_2, xb_b_3⟩ := xb_bq; have xb_blt : w8.heap.size < w15.heap.size := (by omega)))
      clear a_b_0 a_b_1 a_b_2 a_b_3 a_blt
      clear xb_b_0 xb_b_1 xb_b_2 xb_b_3 xb_blt
      clear oy_b
      have a_bq := a_b
      obtain ⟨a_b_0, a_b_1, a_b_2, a_b_3⟩ := a_bq
      have a_blt : w.heap.size < w15.heap.size := (by omega)
      have xb_bq := xb_b
      obtain ⟨xb_b_0, xb_b_1, xb_b_2, xb_b_3⟩ := xb_bq
      have xb_blt : w8.heap.size < w15.heap.size := (by omega)
      go_wp2_with fail
      clear a_b_0 a_b_1 a_b_2 a_b_3 a_blt
      clear xb_b_0 xb_b_1 xb_b_2 xb_b_3 xb_blt
      have wl_a := Bd.wtL_le x_a
      have wb_a : Bd.bulkL x_a ≤ 1048576 := by rw [← Bd.bulkL_er, Qx_a.out, Bd.bulkL_er]; omega
      refine (markBdL_any x_aA x_ac x_a w6.heap.size w7.heap.size _ 1 (by omega) (by omega) (by omega) ox_a (by omega)).mono ?_
      rintro e w16 ⟨rfl, x_am, hc16⟩
      have z16 := hc16.size
      have hl16 : ∀ k ∈ Bd.E.lblks x_aA x_a, w6.heap.size ≤ k ∧ k < w7.heap.size := fun k hk => ⟨ox_a.lo_ _ hk, ox_a.inn.blk_lt _ hk⟩
      have a_b := a_b.chg hc16 (by omega) (fun hm => by have := hl16 _ hm; omega)
      have xb_b := xb_b.chg hc16 (by omega) (fun hm => by have := hl16 _ hm; omega)
      have ovv := ovv.keepB (w' := w16) (fun k hk => hc16.block k (by have := ovv.inn.blk_lt _ hk; omega) (fun hm => by have := hl16 _ hm; have := ovv.inn.blk_lt _ hk; have := ovv.lo_ _ hk; omega))
      have ox_b := ox_b.keepB (w' := w16) (fun k hk => hc16.block k (by have := ox_b.inn.blk_lt _ hk; omega) (fun hm => by have := hl16 _ hm; have := ox_b.inn.blk_lt _ hk; have := ox_b.lo_ _ hk; omega))
      have ogv := ogv.keepB (w' := w16) (fun k hk => hc16.block k (by have := ogv.inn.blk_lt _ hk; omega) (fun hm => by have := hl16 _ hm; have := ogv.inn.blk_lt _ hk; have := ogv.lo_ _ hk; omega))
      have b16 : Below w.heap.size w w16 := b15.trans (hc16.below (fun k hk => by have := hl16 _ hk; omega) (by omega))
      have i_a := h_a.below b16
      have i_b := h_b.below b16
      have ox_a := x_am
      clear hc16 hl16 x_am
      have n2_a : ¬ (1 + ((Bd.wtL x_a : Nat) : Int) < 0) := by omega
      clear ox_a
      have a_bq := a_b
      obtain ⟨a_b_0, a_b_1, a_b_2, a_b_3⟩ := a_bq
      have a_blt : w.heap.size < w16.heap.size := (by omega)
      have xb_bq := xb_b
      obtain ⟨xb_b_0, xb_b_1, xb_b_2, xb_b_3⟩ := xb_bq
      have xb_blt : w8.heap.size < w16.heap.size := (by omega)
      go_wp2_with fail
      clear a_b_0 a_b_1 a_b_2 a_b_3 a_blt
      clear xb_b_0 xb_b_1 xb_b_2 xb_b_3 xb_blt
      refine (markBd_any x_b w7.heap.size w8.heap.size _ (1 + ((Bd.wtL x_a : Nat) : Int)) (by omega) (by omega) (by omega) ox_b (by omega)).mono ?_
      rintro e w17 ⟨rfl, x_bm, hc17⟩
      have z17 := hc17.size
      have hl17 : ∀ k ∈ Bd.E.blks x_b, w7.heap.size ≤ k ∧ k < w8.heap.size := fun k hk => ⟨ox_b.lo_ _ hk, ox_b.inn.blk_lt _ hk⟩
      have a_b := a_b.chg hc17 (by omega) (fun hm => by have := hl17 _ hm; omega)
      have xb_b := xb_b.chg hc17 (by omega) (fun hm => by have := hl17 _ hm; omega)
      have ovv := ovv.keepB (w' := w17) (fun k hk => hc17.block k (by have := ovv.inn.blk_lt _ hk; omega) (fun hm => by have := hl17 _ hm; have := ovv.inn.blk_lt _ hk; have := ovv.lo_ _ hk; omega))
      have ogv := ogv.keepB (w' := w17) (fun k hk => hc17.block k (by have := ogv.inn.blk_lt _ hk; omega) (fun hm => by have := hl17 _ hm; have := ogv.inn.blk_lt _ hk; have := ogv.lo_ _ hk; omega))
      have b17 : Below w.heap.size w w17 := b16.trans (hc17.below (fun k hk => by have := hl17 _ hk; omega) (by omega))
      have i_a := h_a.below b17
      have i_b := h_b.below b17
      have ox_b := x_bm
      clear hc17 hl17 x_bm
      have n2_b : ¬ (1 + ((Bd.wtL x_a : Nat) : Int) + (x_b.s.length : Int) < 0) := by omega
      clear ox_b
      have a_bq := a_b
      obtain ⟨a_b_0, a_b_1, a_b_2, a_b_3⟩ := a_bq
      have a_blt : w.heap.size < w17.heap.size := (by omega)
      have xb_bq := xb_b
      obtain ⟨xb_b_0, xb_b_1, xb_b_2, xb_b_3⟩ := xb_bq
      have xb_blt : w8.heap.size < w17.heap.size := (by omega)
      go_wp2_with fail
      clear a_b_0 a_b_1 a_b_2 a_b_3 a_blt
      clear xb_b_0 xb_b_1 xb_b_2 xb_b_3 xb_blt
      refine (eqBdL_any gvA gvc gv vvA vvc vv w17.heap.size _ (Qgv.out.trans Qvv.out.symm) (ogv.inn.more (by omega)) (ovv.inn.more (by omega)) (by omega)).mono ?_
      rintro e w18 ⟨rfl, hb18⟩
      have z18 := hb18.size
      have a_b := a_b.below hb18 (by omega)
      have xb_b := xb_b.below hb18 (by omega)
      have ovv := ovv.below (hb18.mono (by omega))
      have ogv := ogv.below (hb18.mono (by omega))
      have b18 := b17.trans (hb18.mono (by omega))
      have i_a := h_a.below b18
      have i_b := h_b.below b18
      clear hb18
      have a_bq := a_b
      obtain ⟨a_b_0, a_b_1, a_b_2, a_b_3⟩ := a_bq
      have a_blt : w.heap.size < w18.heap.size := (by omega)
      have xb_bq := xb_b
      obtain ⟨xb_b_0, xb_b_1, xb_b_2, xb_b_3⟩ := xb_bq
      have xb_blt : w8.heap.size < w18.heap.size := (by omega)
      go_wp2_with fail
      clear a_b_0 a_b_1 a_b_2 a_b_3 a_blt
      clear xb_b_0 xb_b_1 xb_b_2 xb_b_3 xb_blt
      refine (markBdL_any gvA gvc gv w9.heap.size w10.heap.size _ 1 (by omega) (by omega) (by omega) ogv (by omega)).mono ?_
      rintro e w19 ⟨rfl, gvm, hc19⟩
      have z19 := hc19.size
      have hl19 : ∀ k ∈ Bd.E.lblks gvA gv, w9.heap.size ≤ k ∧ k < w10.heap.size := fun k hk => ⟨ogv.lo_ _ hk, ogv.inn.blk_lt _ hk⟩
      have a_b := a_b.chg hc19 (by omega) (fun hm => by have := hl19 _ hm; omega)
      have xb_b := xb_b.chg hc19 (by omega) (fun hm => by have := hl19 _ hm; omega)
      have ovv := ovv.keepB (w' := w19) (fun k hk => hc19.block k (by have := ovv.inn.blk_lt _ hk; omega) (fun hm => by have := hl19 _ hm; have := ovv.inn.blk_lt _ hk; have := ovv.lo_ _ hk; omega))
      have b19 : Below w.heap.size w w19 := b18.trans (hc19.below (fun k hk => by have := hl19 _ hk; omega) (by omega))
      have i_a := h_a.below b19
      have i_b := h_b.below b19
      have ogv := gvm
      clear hc19 hl19 gvm
      have a_bq := a_b
      obtain ⟨a_b_0, a_b_1, a_b_2, a_b_3⟩ := a_bq
      have a_blt : w.heap.size < w19.heap.size := (by omega)
      have xb_bq := xb_b
      obtain ⟨xb_b_0, xb_b_1, xb_b_2, xb_b_3⟩ := xb_bq
      have xb_blt : w8.heap.size < w19.heap.size := (by omega)
      go_wp2_with fail
      clear a_b_0 a_b_1 a_b_2 a_b_3 a_blt
      clear xb_b_0 xb_b_1 xb_b_2 xb_b_3 xb_blt
      refine (heldBdL_any gvA gvc gv w10.heap.size _ 1 (by omega) (by omega) (by omega) ogv.inn (by omega)).mono ?_
      rintro e w20 ⟨rfl, hb20⟩
      have z20 := hb20.size
      have a_b := a_b.below hb20 (by omega)
      have xb_b := xb_b.below hb20 (by omega)
      have ovv := ovv.below (hb20.mono (by omega))
      have ogv := ogv.below (hb20.mono (by omega))
      have b20 := b19.trans (hb20.mono (by omega))
      have i_a := h_a.below b20
      have i_b := h_b.below b20
      clear hb20
      have n3 : ¬ (1 + ((Bd.wtL gv : Nat) : Int) < 0) := by omega
      have a_bq := a_b
      obtain ⟨a_b_0, a_b_1, a_b_2, a_b_3⟩ := a_bq
      have a_blt : w.heap.size < w20.heap.size := (by omega)
      have xb_bq := xb_b
      obtain ⟨xb_b_0, xb_b_1, xb_b_2, xb_b_3⟩ := xb_bq
      have xb_blt : w8.heap.size < w20.heap.size := (by omega)
      go_wp2_with fail
      clear a_b_0 a_b_1 a_b_2 a_b_3 a_blt
      clear xb_b_0 xb_b_1 xb_b_2 xb_b_3 xb_blt
      have a_bq := a_b
      obtain ⟨a_b_0, a_b_1, a_b_2, a_b_3⟩ := a_bq
      have a_blt : w.heap.size < w20.heap.size := (by omega)
      have xb_bq := xb_b
      obtain ⟨xb_b_0, xb_b_1, xb_b_2, xb_b_3⟩ := xb_bq
      have xb_blt : w8.heap.size < w20.heap.size := (by omega)
      have tok5 : True := trivial
      have tok6 : True := trivial
      have tok7 : True := trivial
      go_region_held3 (fun w' => w'.cell? ⟨w.heap.size, 0, none⟩ = some (.string b.t) ∧ w'.cell? ⟨w.heap.size, 1, none⟩ = some (.slice b.sa b.s.length b.sc) ∧ w'.cell? ⟨w.heap.size, 2, none⟩ = some (.int .i64 b.k) ∧ w'.cell? ⟨w.heap.size, 3, none⟩ = some (.int .i64 b.n)) (go_keep)
        (first
          | (go_simp; go_at_call 23; have _t := tok5; have hcon := toBdL_any A_a c_a a w.heap.size w20.drew hs_a i_a.drew (show w.heap.size ≤ w20.heap.size by omega); (with_reducible refine hcon.mono ?_); clear hcon; rintro e w21 ⟨d4_aA, d4_ac, d4_a, rfl, hed4_a, od4_a, hb21⟩; have hb21 : Below w20.heap.size w20 w21 := below_undrew hb21; have z21 : w20.heap.size ≤ w21.heap.size := hb21.size; clear tok5; have Qd4_a := Lib.hid hed4_a; have sd4_a : Bd.bulkL d4_a ≤ 2000000 := (by rw [← Bd.bulkL_er, Qd4_a.out, Bd.bulkL_er]; exact hs_a); clear hed4_a; clear a_b_0 a_b_1 a_b_2 a_b_3 a_blt; clear xb_b_0 xb_b_1 xb_b_2 xb_b_3 xb_blt; have a_b := a_b.below hb21 (by omega); have xb_b := xb_b.below hb21 (by omega); have ovv := ovv.below (hb21.mono (by omega)); have ogv := ogv.below (hb21.mono (by omega)); have b21 := b20.trans (hb21.mono (by omega)); have i_a := h_a.below b21; have i_b := h_b.below b21; clear hb21; have a_bq := a_b; obtain ⟨a_b_0, a_b_1, a_b_2, a_b_3⟩ := a_bq; have a_blt : w.heap.size < w21.heap.size := (by omega); have xb_bq := xb_b; obtain ⟨xb_b_0, xb_b_1, xb_b_2, xb_b_3⟩ := xb_bq; have xb_blt : w8.heap.size < w21.heap.size := (by omega))
          | (go_simp; go_at_call 24; have _t := tok6; have hcon := toBd_any b w.heap.size w21 hs_b i_b (by omega); (first | (with_reducible refine hcon.mono ?_) | (simp only [Bd.val] at hcon; with_reducible refine hcon.mono ?_)); clear hcon; rintro e w22 ⟨d4_b, rfl, hed4_b, od4_b, hb22⟩; have z22 : w21.heap.size ≤ w22.heap.size := hb22.size; clear tok6; have Qd4_b := Lib.hid hed4_b; have sd4_b : d4_b.s.length ≤ 2000000 := (by rw [(Bd.fields_of_er Qd4_b.out).2.1]; exact hs_b); clear hed4_b; clear a_b_0 a_b_1 a_b_2 a_b_3 a_blt; clear xb_b_0 xb_b_1 xb_b_2 xb_b_3 xb_blt; have a_b := a_b.below hb22 (by omega); have xb_b := xb_b.below hb22 (by omega); have ovv := ovv.below (hb22.mono (by omega)); have ogv := ogv.below (hb22.mono (by omega)); have od4_a := od4_a.below (hb22.mono (by omega)); have b22 := b21.trans (hb22.mono (by omega)); have i_a := h_a.below b22; have i_b := h_b.below b22; clear hb22; have a_bq := a_b; obtain ⟨a_b_0, a_b_1, a_b_2, a_b_3⟩ := a_bq; have a_blt : w.heap.size < w22.heap.size := (by omega); have xb_bq := xb_b; obtain ⟨xb_b_0, xb_b_1, xb_b_2, xb_b_3⟩ := xb_bq; have xb_blt : w8.heap.size < w22.heap.size := (by omega))
          | (go_simp; go_at_call 25; have _t := tok7; have hcon := implAdd_c d4_aA d4_ac d4_a d4_b w22.heap.size w22 Qd4_a.out Qd4_b.out hX hY hs_a (by omega) (od4_a.inn.more (by omega)) (od4_b.inn.more (by omega)) (by omega); (first | (with_reducible refine hcon.mono ?_) | (simp only [Bd.val] at hcon; with_reducible refine hcon.mono ?_)); clear hcon; rintro e w23 ⟨hvA, hvc, hv, rfl, hehv, ohv, hb23⟩; have z23 : w22.heap.size ≤ w23.heap.size := hb23.size; clear tok7; have Qhv := Lib.hid hehv; have shv : Bd.bulkL hv ≤ 2000000 := hYs hv Qhv.out; clear hehv; clear a_b_0 a_b_1 a_b_2 a_b_3 a_blt; clear xb_b_0 xb_b_1 xb_b_2 xb_b_3 xb_blt; have a_b := a_b.below hb23 (by omega); have xb_b := xb_b.below hb23 (by omega); have ovv := ovv.below (hb23.mono (by omega)); have ogv := ogv.below (hb23.mono (by omega)); have od4_a := od4_a.below (hb23.mono (by omega)); have od4_b := od4_b.below (hb23.mono (by omega)); have b23 := b22.trans (hb23.mono (by omega)); have i_a := h_a.below b23; have i_b := h_b.below b23; clear hb23; have a_bq := a_b; obtain ⟨a_b_0, a_b_1, a_b_2, a_b_3⟩ := a_bq; have a_blt : w.heap.size < w23.heap.size := (by omega); have xb_bq := xb_b; obtain ⟨xb_b_0, xb_b_1, xb_b_2, xb_b_3⟩ := xb_bq; have xb_blt : w8.heap.size < w23.heap.size := (by omega))
          | fail)
      clear a_b_0 a_b_1 a_b_2 a_b_3 a_blt
      clear xb_b_0 xb_b_1 xb_b_2 xb_b_3 xb_blt
      clear od4_a
      clear od4_b
      have a_bq := a_b
      obtain ⟨a_b_0, a_b_1, a_b_2, a_b_3⟩ := a_bq
      have a_blt : w.heap.size < w23.heap.size := (by omega)
      have xb_bq := xb_b
      obtain ⟨xb_b_0, xb_b_1, xb_b_2, xb_b_3⟩ := xb_bq
      have xb_blt : w8.heap.size < w23.heap.size := (by omega)
      go_wp2_with fail
      clear a_b_0 a_b_1 a_b_2 a_b_3 a_blt
      clear xb_b_0 xb_b_1 xb_b_2 xb_b_3 xb_blt
      refine (eqBdL_any hvA hvc hv vvA vvc vv w23.heap.size _ (Qhv.out.trans Qvv.out.symm) (ohv.inn.more (by omega)) (ovv.inn.more (by omega)) (by omega)).mono ?_
      rintro e w24 ⟨rfl, hb24⟩
      have z24 := hb24.size
      have a_b := a_b.below hb24 (by omega)
      have xb_b := xb_b.below hb24 (by omega)
      have ovv := ovv.below (hb24.mono (by omega))
      have ogv := ogv.below (hb24.mono (by omega))
      have ohv := ohv.below (hb24.mono (by omega))
      have b24 := b23.trans (hb24.mono (by omega))
      have i_a := h_a.below b24
      have i_b := h_b.below b24
      clear hb24
      have a_bq := a_b
      obtain ⟨a_b_0, a_b_1, a_b_2, a_b_3⟩ := a_bq
      have a_blt : w.heap.size < w24.heap.size := (by omega)
      have xb_bq := xb_b
      obtain ⟨xb_b_0, xb_b_1, xb_b_2, xb_b_3⟩ := xb_bq
      have xb_blt : w8.heap.size < w24.heap.size := (by omega)
      go_wp2_with fail
      clear a_b_0 a_b_1 a_b_2 a_b_3 a_blt
      clear xb_b_0 xb_b_1 xb_b_2 xb_b_3 xb_blt
      refine (heldBdL_any gvA gvc gv w10.heap.size _ 1 (by omega) (by omega) (by omega) ogv.inn (by omega)).mono ?_
      rintro e w25 ⟨rfl, hb25⟩
      have z25 := hb25.size
      have a_b := a_b.below hb25 (by omega)
      have xb_b := xb_b.below hb25 (by omega)
      have ovv := ovv.below (hb25.mono (by omega))
      have ogv := ogv.below (hb25.mono (by omega))
      have ohv := ohv.below (hb25.mono (by omega))
      have b25 := b24.trans (hb25.mono (by omega))
      have i_a := h_a.below b25
      have i_b := h_b.below b25
      clear hb25
      have a_bq := a_b
      obtain ⟨a_b_0, a_b_1, a_b_2, a_b_3⟩ := a_bq
      have a_blt : w.heap.size < w25.heap.size := (by omega)
      have xb_bq := xb_b
      obtain ⟨xb_b_0, xb_b_1, xb_b_2, xb_b_3⟩ := xb_bq
      have xb_blt : w8.heap.size < w25.heap.size := (by omega)
      go_wp2_with fail
      clear a_b_0 a_b_1 a_b_2 a_b_3 a_blt
      clear xb_b_0 xb_b_1 xb_b_2 xb_b_3 xb_blt
      go_ret
      exact ⟨rfl, b25⟩
    · have b0 : Below w.heap.size w w := Below.refl _ _
      have i_a := h_a
      have i_b := h_b
      go_enter Try.func4, Try.ntmps4
      go_wp2_with fail
      obtain ⟨w1, hw1⟩ : ∃ W, W = w.alloc (.cells #[.string b.t, .slice b.sa b.s.length b.sc, .int .i64 b.k, .int .i64 b.n] 36) := ⟨_, rfl⟩
      rw [← hw1]
      have hb1 : Below w.heap.size w w1 := by rw [hw1]; exact (Below.refl _ _).alloc (Nat.le_refl _) _
      have z1 : w.heap.size + 1 ≤ w1.heap.size := by rw [hw1]; simp
      have y1 : w1.heap.size ≤ w.heap.size + 1 := by rw [hw1]; simp
      have a_b : Bd.Box w1 w.heap.size b := by rw [hw1]; exact Bd.Box.new _ _ _
      clear hw1
      have b1 := b0.trans (hb1.mono (by omega))
      have i_a := h_a.below b1
      have i_b := h_b.below b1
      clear hb1
      refine (szBdL_any A_a c_a a w.heap.size _ 1048576 h_a.cap (by omega) (by omega) i_a (by omega)).mono ?_
      rintro e w2 ⟨rfl, hb2⟩
      have z2 := hb2.size
      have a_b := a_b.below hb2 (by omega)
      have b2 := b1.trans (hb2.mono (by omega))
      have i_a := h_a.below b2
      have i_b := h_b.below b2
      clear hb2
      rw [szR_yes (by omega)]
      have n1_a : ¬ (1048576 - (Bd.bulkL a : Int) < 0) := by omega
      have a_bq := a_b
      obtain ⟨a_b_0, a_b_1, a_b_2, a_b_3⟩ := a_bq
      have a_blt : w.heap.size < w2.heap.size := (by omega)
      go_wp2_with fail
      clear a_b_0 a_b_1 a_b_2 a_b_3 a_blt
      refine (szBd_any b w.heap.size _ (1048576 - (Bd.bulkL a : Int)) (by omega) (by omega) i_b (by omega)).mono ?_
      rintro e w3 ⟨rfl, hb3⟩
      have z3 := hb3.size
      have a_b := a_b.below hb3 (by omega)
      have b3 := b2.trans (hb3.mono (by omega))
      have i_a := h_a.below b3
      have i_b := h_b.below b3
      clear hb3
      rw [szR_no (by omega)]
      have a_bq := a_b
      obtain ⟨a_b_0, a_b_1, a_b_2, a_b_3⟩ := a_bq
      have a_blt : w.heap.size < w3.heap.size := (by omega)
      go_wp2_with fail
      clear a_b_0 a_b_1 a_b_2 a_b_3 a_blt
      go_ret
      exact ⟨rfl, b3⟩
  · have b0 : Below w.heap.size w w := Below.refl _ _
    have i_a := h_a
    have i_b := h_b
    go_enter Try.func4, Try.ntmps4
    go_wp2_with fail
    obtain ⟨w1, hw1⟩ : ∃ W, W = w.alloc (.cells #[.string b.t, .slice b.sa b.s.length b.sc, .int .i64 b.k, .int .i64 b.n] 36) := ⟨_, rfl⟩
    rw [← hw1]
    have hb1 : Below w.heap.size w w1 := by rw [hw1]; exact (Below.refl _ _).alloc (Nat.le_refl _) _
    have z1 : w.heap.size + 1 ≤ w1.heap.size := by rw [hw1]; simp
    have y1 : w1.heap.size ≤ w.heap.size + 1 := by rw [hw1]; simp
    have a_b : Bd.Box w1 w.heap.size b := by rw [hw1]; exact Bd.Box.new _ _ _
    clear hw1
    have b1 := b0.trans (hb1.mono (by omega))
    have i_a := h_a.below b1
    have i_b := h_b.below b1
    clear hb1
    refine (szBdL_any A_a c_a a w.heap.size _ 1048576 h_a.cap (by omega) (by omega) i_a (by omega)).mono ?_
    rintro e w2 ⟨rfl, hb2⟩
    have z2 := hb2.size
    have a_b := a_b.below hb2 (by omega)
    have b2 := b1.trans (hb2.mono (by omega))
    have i_a := h_a.below b2
    have i_b := h_b.below b2
    clear hb2
    rw [szR_no (by omega)]
    have a_bq := a_b
    obtain ⟨a_b_0, a_b_1, a_b_2, a_b_3⟩ := a_bq
    have a_blt : w.heap.size < w2.heap.size := (by omega)
    go_wp2_with fail
    clear a_b_0 a_b_1 a_b_2 a_b_3 a_blt
    go_ret
    exact ⟨rfl, b2⟩
end Go.Proofs.Ytikjipkhebedfaa
