/-
  The law on SameMeaning, walked.
-/
import Derived.Test.YtikjipkhebedfaaMean
import Derived.Test.YtikjipkhebedfaaBindM
import Derived.Test.YtikjipkhebedfaaSynL
import Derived.Deep.RegionHeld3
namespace Go.Proofs.Ytikjipkhebedfaa
open Go.RowKit

set_option maxRecDepth 100000 in
set_option maxHeartbeats 4000000 in
theorem law_same (A_a : Option Addr) (c_a : Nat) (a : List Bd) (b : S) (c : S) (w : World) (h_a : Bd.E.LIn w w.heap.size A_a c_a a) (h_b : b.In w w.heap.size) (h_c : c.In w w.heap.size) : Calls Try.prog 7 #[.slice A_a a.length c_a, b.val, c.val] w fun e w' => e = .returned (.bool true) ∧ Below w.heap.size w w' := by
  unfold S.val
  by_cases hz_a : (Bd.bulkL a : Int) ≤ 1048576
  · have hs_a : Bd.bulkL a ≤ 2000000 := by omega
    by_cases hz_b : (b.bulk : Int) ≤ 1048576 - (Bd.bulkL a : Int)
    · have hs_b : b.size ≤ 1048577 := by have := S.bulk_size b; omega
      have hs_b : b.size ≤ 2000000 := by omega
      have hk_b : b.bulk ≤ 1048576 := by omega
      have hb_b : b.bulk ≤ 2000000 := by omega
      by_cases hz_c : (c.bulk : Int) ≤ 1048576 - (Bd.bulkL a : Int) - (b.bulk : Int)
      · have hs_c : c.size ≤ 1048577 := by have := S.bulk_size c; omega
        have hs_c : c.size ≤ 2000000 := by omega
        have hk_c : c.bulk ≤ 1048576 := by omega
        have hb_c : c.bulk ≤ 2000000 := by omega
        obtain ⟨X, hX⟩ : ∃ X, X = Bd.smB a b c := ⟨_, rfl⟩
        have HX := Lib.hid hX
        clear hX
        have nq : (X != X) = false := by simp
        have b0 : Below w.heap.size w w := Below.refl _ _
        have i_a := h_a
        have i_b := h_b
        have i_c := h_c
        go_enter Try.func7, Try.ntmps7
        go_wp2_with fail
        obtain ⟨w1, hw1⟩ : ∃ W, W = w.alloc (.cells #[.int .i64 b.k, .int .i64 b.n, .string b.t, .slice b.sa b.s.length b.sc, .slice b.A b.l.length b.c] 52) := ⟨_, rfl⟩
        rw [← hw1]
        have hb1 : Below w.heap.size w w1 := by rw [hw1]; exact (Below.refl _ _).alloc (Nat.le_refl _) _
        have z1 : w.heap.size + 1 ≤ w1.heap.size := by rw [hw1]; simp
        have y1 : w1.heap.size ≤ w.heap.size + 1 := by rw [hw1]; simp
        have a_b : S.Box w1 w.heap.size b := by rw [hw1]; exact S.Box.new _ _ _
        clear hw1
        have b1 := b0.trans (hb1.mono (by omega))
        have i_a := h_a.below b1
        have i_b := h_b.below b1
        have i_c := h_c.below b1
        clear hb1
        obtain ⟨w2, hw2⟩ : ∃ W, W = w1.alloc (.cells #[.int .i64 c.k, .int .i64 c.n, .string c.t, .slice c.sa c.s.length c.sc, .slice c.A c.l.length c.c] 52) := ⟨_, rfl⟩
        rw [← hw2]
        have hb2 : Below w1.heap.size w1 w2 := by rw [hw2]; exact (Below.refl _ _).alloc (Nat.le_refl _) _
        have z2 : w1.heap.size + 1 ≤ w2.heap.size := by rw [hw2]; simp
        have y2 : w2.heap.size ≤ w1.heap.size + 1 := by rw [hw2]; simp
        have a_c : S.Box w2 w1.heap.size c := by rw [hw2]; exact S.Box.new _ _ _
        clear hw2
        have a_b := a_b.below hb2 (by omega)
        have b2 := b1.trans (hb2.mono (by omega))
        have i_a := h_a.below b2
        have i_b := h_b.below b2
        have i_c := h_c.below b2
        clear hb2
        have e_a_c : w1.heap.size = w.heap.size + 1 := by omega
        rw [e_a_c] at a_c
        clear e_a_c
        refine (szBdL_any A_a c_a a w.heap.size _ 1048576 h_a.cap (by omega) (by omega) i_a (by omega)).mono ?_
        rintro e w3 ⟨rfl, hb3⟩
        have z3 := hb3.size
        have a_b := a_b.below hb3 (by omega)
        have a_c := a_c.below hb3 (by omega)
        have b3 := b2.trans (hb3.mono (by omega))
        have i_a := h_a.below b3
        have i_b := h_b.below b3
        have i_c := h_c.below b3
        clear hb3
        rw [szR_yes (by omega)]
        have n1_a : ¬ (1048576 - (Bd.bulkL a : Int) < 0) := by omega
        have a_bq := a_b
        obtain ⟨a_b_0, a_b_1, a_b_2, a_b_3, a_b_4⟩ := a_bq
        have a_blt : w.heap.size < w3.heap.size := (by omega)
        have a_cq := a_c
        obtain ⟨a_c_0, a_c_1, a_c_2, a_c_3, a_c_4⟩ := a_cq
        have a_clt : w.heap.size + 1 < w3.heap.size := (by omega)
        go_wp2_with fail
        clear a_b_0 a_b_1 a_b_2 a_b_3 a_b_4 a_blt
        clear a_c_0 a_c_1 a_c_2 a_c_3 a_c_4 a_clt
        refine (ssz_any 2000000 b w.heap.size _ (1048576 - (Bd.bulkL a : Int)) hs_b (by omega) (by omega) i_b (by omega)).mono ?_
        rintro e w4 ⟨rfl, hb4⟩
        have z4 := hb4.size
        have a_b := a_b.below hb4 (by omega)
        have a_c := a_c.below hb4 (by omega)
        have b4 := b3.trans (hb4.mono (by omega))
        have i_a := h_a.below b4
        have i_b := h_b.below b4
        have i_c := h_c.below b4
        clear hb4
        rw [szR_yes (by omega)]
        have n1_b : ¬ (1048576 - (Bd.bulkL a : Int) - (b.bulk : Int) < 0) := by omega
        have a_bq := a_b
        obtain ⟨a_b_0, a_b_1, a_b_2, a_b_3, a_b_4⟩ := a_bq
        have a_blt : w.heap.size < w4.heap.size := (by omega)
        have a_cq := a_c
        obtain ⟨a_c_0, a_c_1, a_c_2, a_c_3, a_c_4⟩ := a_cq
        have a_clt : w.heap.size + 1 < w4.heap.size := (by omega)
        go_wp2_with fail
        clear a_b_0 a_b_1 a_b_2 a_b_3 a_b_4 a_blt
        clear a_c_0 a_c_1 a_c_2 a_c_3 a_c_4 a_clt
        refine (ssz_any 2000000 c w.heap.size _ (1048576 - (Bd.bulkL a : Int) - (b.bulk : Int)) hs_c (by omega) (by omega) i_c (by omega)).mono ?_
        rintro e w5 ⟨rfl, hb5⟩
        have z5 := hb5.size
        have a_b := a_b.below hb5 (by omega)
        have a_c := a_c.below hb5 (by omega)
        have b5 := b4.trans (hb5.mono (by omega))
        have i_a := h_a.below b5
        have i_b := h_b.below b5
        have i_c := h_c.below b5
        clear hb5
        rw [szR_yes (by omega)]
        have n1_c : ¬ (1048576 - (Bd.bulkL a : Int) - (b.bulk : Int) - (c.bulk : Int) < 0) := by omega
        have a_bq := a_b
        obtain ⟨a_b_0, a_b_1, a_b_2, a_b_3, a_b_4⟩ := a_bq
        have a_blt : w.heap.size < w5.heap.size := (by omega)
        have a_cq := a_c
        obtain ⟨a_c_0, a_c_1, a_c_2, a_c_3, a_c_4⟩ := a_cq
        have a_clt : w.heap.size + 1 < w5.heap.size := (by omega)
        go_wp2_with fail
        clear a_b_0 a_b_1 a_b_2 a_b_3 a_b_4 a_blt
        clear a_c_0 a_c_1 a_c_2 a_c_3 a_c_4 a_clt
        have a_bq := a_b
        obtain ⟨a_b_0, a_b_1, a_b_2, a_b_3, a_b_4⟩ := a_bq
        have a_blt : w.heap.size < w5.heap.size := (by omega)
        have a_cq := a_c
        obtain ⟨a_c_0, a_c_1, a_c_2, a_c_3, a_c_4⟩ := a_cq
        have a_clt : w.heap.size + 1 < w5.heap.size := (by omega)
        have tok0 : True := trivial
        have tok1 : True := trivial
        have tok2 : True := trivial
        have tok3 : True := trivial
        go_region_held3 (fun w' => w'.cell? ⟨w.heap.size, 0, none⟩ = some (.int .i64 b.k) ∧ w'.cell? ⟨w.heap.size, 1, none⟩ = some (.int .i64 b.n) ∧ w'.cell? ⟨w.heap.size, 2, none⟩ = some (.string b.t) ∧ w'.cell? ⟨w.heap.size, 3, none⟩ = some (.slice b.sa b.s.length b.sc) ∧ w'.cell? ⟨w.heap.size, 4, none⟩ = some (.slice b.A b.l.length b.c) ∧ w'.cell? ⟨w.heap.size + 1, 0, none⟩ = some (.int .i64 c.k) ∧ w'.cell? ⟨w.heap.size + 1, 1, none⟩ = some (.int .i64 c.n) ∧ w'.cell? ⟨w.heap.size + 1, 2, none⟩ = some (.string c.t) ∧ w'.cell? ⟨w.heap.size + 1, 3, none⟩ = some (.slice c.sa c.s.length c.sc) ∧ w'.cell? ⟨w.heap.size + 1, 4, none⟩ = some (.slice c.A c.l.length c.c)) (go_keep)
          (first
            | (go_simp; go_at_call 23; have _t := tok0; have hcon := toBdL_any A_a c_a a w.heap.size w5.drew hs_a i_a.drew (show w.heap.size ≤ w5.heap.size by omega); (with_reducible refine hcon.mono ?_); clear hcon; rintro e w6 ⟨d1_aA, d1_ac, d1_a, rfl, hed1_a, od1_a, hb6⟩; have hb6 : Below w5.heap.size w5 w6 := below_undrew hb6; have z6 : w5.heap.size ≤ w6.heap.size := hb6.size; clear tok0; have Qd1_a := Lib.hid hed1_a; have sd1_a : Bd.bulkL d1_a ≤ 2000000 := (by rw [← Bd.bulkL_er, Qd1_a.out, Bd.bulkL_er]; exact hs_a); clear hed1_a; clear a_b_0 a_b_1 a_b_2 a_b_3 a_b_4 a_blt; clear a_c_0 a_c_1 a_c_2 a_c_3 a_c_4 a_clt; have a_b := a_b.below hb6 (by omega); have a_c := a_c.below hb6 (by omega); have b6 := b5.trans (hb6.mono (by omega)); have i_a := h_a.below b6; have i_b := h_b.below b6; have i_c := h_c.below b6; clear hb6; have a_bq := a_b; obtain ⟨a_b_0, a_b_1, a_b_2, a_b_3, a_b_4⟩ := a_bq; have a_blt : w.heap.size < w6.heap.size := (by omega); have a_cq := a_c; obtain ⟨a_c_0, a_c_1, a_c_2, a_c_3, a_c_4⟩ := a_cq; have a_clt : w.heap.size + 1 < w6.heap.size := (by omega))
            | (go_simp; go_at_call 33; have _t := tok1; have hcon := sto_any 2000000 b w.heap.size w6 hb_b hs_b (by omega) i_b (by omega); (first | (with_reducible refine hcon.mono ?_) | (simp only [S.val] at hcon; with_reducible refine hcon.mono ?_)); clear hcon; rintro e w7 ⟨d1_b, rfl, hed1_b, od1_b, hb7⟩; have z7 : w6.heap.size ≤ w7.heap.size := hb7.size; clear tok1; have Qd1_b := Lib.hid hed1_b; obtain ⟨sd1_b, kd1_b, td1_b⟩ := S.bounds_of Qd1_b.out (by rw [S.size_er]; omega) (by rw [S.bulk_er]; omega); clear hed1_b; clear a_b_0 a_b_1 a_b_2 a_b_3 a_b_4 a_blt; clear a_c_0 a_c_1 a_c_2 a_c_3 a_c_4 a_clt; have a_b := a_b.below hb7 (by omega); have a_c := a_c.below hb7 (by omega); have od1_a := od1_a.below (hb7.mono (by omega)); have b7 := b6.trans (hb7.mono (by omega)); have i_a := h_a.below b7; have i_b := h_b.below b7; have i_c := h_c.below b7; clear hb7; have a_bq := a_b; obtain ⟨a_b_0, a_b_1, a_b_2, a_b_3, a_b_4⟩ := a_bq; have a_blt : w.heap.size < w7.heap.size := (by omega); have a_cq := a_c; obtain ⟨a_c_0, a_c_1, a_c_2, a_c_3, a_c_4⟩ := a_cq; have a_clt : w.heap.size + 1 < w7.heap.size := (by omega))
            | (go_simp; go_at_call 33; have _t := tok2; have hcon := sto_any 2000000 c w.heap.size w7 hb_c hs_c (by omega) i_c (by omega); (first | (with_reducible refine hcon.mono ?_) | (simp only [S.val] at hcon; with_reducible refine hcon.mono ?_)); clear hcon; rintro e w8 ⟨d1_c, rfl, hed1_c, od1_c, hb8⟩; have z8 : w7.heap.size ≤ w8.heap.size := hb8.size; clear tok2; have Qd1_c := Lib.hid hed1_c; obtain ⟨sd1_c, kd1_c, td1_c⟩ := S.bounds_of Qd1_c.out (by rw [S.size_er]; omega) (by rw [S.bulk_er]; omega); clear hed1_c; clear a_b_0 a_b_1 a_b_2 a_b_3 a_b_4 a_blt; clear a_c_0 a_c_1 a_c_2 a_c_3 a_c_4 a_clt; have a_b := a_b.below hb8 (by omega); have a_c := a_c.below hb8 (by omega); have od1_a := od1_a.below (hb8.mono (by omega)); have od1_b := od1_b.below (hb8.mono (by omega)); have b8 := b7.trans (hb8.mono (by omega)); have i_a := h_a.below b8; have i_b := h_b.below b8; have i_c := h_c.below b8; clear hb8; have a_bq := a_b; obtain ⟨a_b_0, a_b_1, a_b_2, a_b_3, a_b_4⟩ := a_bq; have a_blt : w.heap.size < w8.heap.size := (by omega); have a_cq := a_c; obtain ⟨a_c_0, a_c_1, a_c_2, a_c_3, a_c_4⟩ := a_cq; have a_clt : w.heap.size + 1 < w8.heap.size := (by omega))
            | (go_simp; go_at_call 40; have _t := tok3; have hcon := specSame_c d1_aA d1_ac d1_a d1_b d1_c w8.heap.size w8 Qd1_a.out Qd1_b.out Qd1_c.out HX.out hs_a kd1_b sd1_b kd1_c sd1_c (od1_a.inn.more (by omega)) (od1_b.inn.more (by omega)) (od1_c.inn.more (by omega)) (by omega); (first | (with_reducible refine hcon.mono ?_) | (simp only [S.val] at hcon; with_reducible refine hcon.mono ?_)); clear hcon; rintro e w9 ⟨rfl, hb9⟩; have z9 : w8.heap.size ≤ w9.heap.size := hb9.size; clear tok3; clear a_b_0 a_b_1 a_b_2 a_b_3 a_b_4 a_blt; clear a_c_0 a_c_1 a_c_2 a_c_3 a_c_4 a_clt; have a_b := a_b.below hb9 (by omega); have a_c := a_c.below hb9 (by omega); have od1_a := od1_a.below (hb9.mono (by omega)); have od1_b := od1_b.below (hb9.mono (by omega)); have od1_c := od1_c.below (hb9.mono (by omega)); have b9 := b8.trans (hb9.mono (by omega)); have i_a := h_a.below b9; have i_b := h_b.below b9; have i_c := h_c.below b9; clear hb9; have a_bq := a_b; obtain ⟨a_b_0, a_b_1, a_b_2, a_b_3, a_b_4⟩ := a_bq; have a_blt : w.heap.size < w9.heap.size := (by omega); have a_cq := a_c; obtain ⟨a_c_0, a_c_1, a_c_2, a_c_3, a_c_4⟩ := a_cq; have a_clt : w.heap.size + 1 < w9.heap.size := (by omega))
            | fail)
        clear a_b_0 a_b_1 a_b_2 a_b_3 a_b_4 a_blt
        clear a_c_0 a_c_1 a_c_2 a_c_3 a_c_4 a_clt
        clear od1_a
        clear od1_b
        clear od1_c
        have a_bq := a_b
        obtain ⟨a_b_0, a_b_1, a_b_2, a_b_3, a_b_4⟩ := a_bq
        have a_blt : w.heap.size < w9.heap.size := (by omega)
        have a_cq := a_c
        obtain ⟨a_c_0, a_c_1, a_c_2, a_c_3, a_c_4⟩ := a_cq
        have a_clt : w.heap.size + 1 < w9.heap.size := (by omega)
        go_wp2_with fail
        clear a_b_0 a_b_1 a_b_2 a_b_3 a_b_4 a_blt
        clear a_c_0 a_c_1 a_c_2 a_c_3 a_c_4 a_clt
        refine (toBdL_any A_a c_a a w.heap.size _ hs_a i_a (by omega)).mono ?_
        rintro e w10 ⟨x_aA, x_ac, x_a, rfl, hex_a, ox_a, hb10⟩
        have z10 := hb10.size
        have a_b := a_b.below hb10 (by omega)
        have a_c := a_c.below hb10 (by omega)
        have b10 := b9.trans (hb10.mono (by omega))
        have i_a := h_a.below b10
        have i_b := h_b.below b10
        have i_c := h_c.below b10
        clear hb10
        have Qx_a := Lib.hid hex_a
        have sx_a : Bd.bulkL x_a ≤ 2000000 := (by rw [← Bd.bulkL_er, Qx_a.out, Bd.bulkL_er]; exact hs_a)
        clear hex_a
        have a_bq := a_b
        obtain ⟨a_b_0, a_b_1, a_b_2, a_b_3, a_b_4⟩ := a_bq
        have a_blt : w.heap.size < w10.heap.size := (by omega)
        have a_cq := a_c
        obtain ⟨a_c_0, a_c_1, a_c_2, a_c_3, a_c_4⟩ := a_cq
        have a_clt : w.heap.size + 1 < w10.heap.size := (by omega)
        go_wp2_with fail
        clear a_b_0 a_b_1 a_b_2 a_b_3 a_b_4 a_blt
        clear a_c_0 a_c_1 a_c_2 a_c_3 a_c_4 a_clt
        refine (sto_any 2000000 b w.heap.size _ hb_b hs_b (by omega) i_b (by omega)).mono ?_
        rintro e w11 ⟨x_b, rfl, hex_b, ox_b, hb11⟩
        have z11 := hb11.size
        have a_b := a_b.below hb11 (by omega)
        have a_c := a_c.below hb11 (by omega)
        have ox_a := ox_a.below (hb11.mono (by omega))
        have b11 := b10.trans (hb11.mono (by omega))
        have i_a := h_a.below b11
        have i_b := h_b.below b11
        have i_c := h_c.below b11
        clear hb11
        have Qx_b := Lib.hid hex_b
        obtain ⟨sx_b, kx_b, tx_b⟩ := S.bounds_of Qx_b.out (by rw [S.size_er]; omega) (by rw [S.bulk_er]; omega)
        clear hex_b
        simp only [S.val]
        have a_bq := a_b
        obtain ⟨a_b_0, a_b_1, a_b_2, a_b_3, a_b_4⟩ := a_bq
        have a_blt : w.heap.size < w11.heap.size := (by omega)
        have a_cq := a_c
        obtain ⟨a_c_0, a_c_1, a_c_2, a_c_3, a_c_4⟩ := a_cq
        have a_clt : w.heap.size + 1 < w11.heap.size := (by omega)
        go_wp2_with fail
        clear a_b_0 a_b_1 a_b_2 a_b_3 a_b_4 a_blt
        clear a_c_0 a_c_1 a_c_2 a_c_3 a_c_4 a_clt
        obtain ⟨w12, hw12⟩ : ∃ W, W = w11.alloc (.cells #[.int .i64 x_b.k, .int .i64 x_b.n, .string x_b.t, .slice x_b.sa x_b.s.length x_b.sc, .slice x_b.A x_b.l.length x_b.c] 57) := ⟨_, rfl⟩
        rw [← hw12]
        have hb12 : Below w11.heap.size w11 w12 := by rw [hw12]; exact (Below.refl _ _).alloc (Nat.le_refl _) _
        have z12 : w11.heap.size + 1 ≤ w12.heap.size := by rw [hw12]; simp
        have y12 : w12.heap.size ≤ w11.heap.size + 1 := by rw [hw12]; simp
        have xb_b : S.Box w12 w11.heap.size x_b := by rw [hw12]; exact S.Box.new _ _ _
        clear hw12
        have a_b := a_b.below hb12 (by omega)
        have a_c := a_c.below hb12 (by omega)
        have ox_a := ox_a.below (hb12.mono (by omega))
        have ox_b := ox_b.below (hb12.mono (by omega))
        have b12 := b11.trans (hb12.mono (by omega))
        have i_a := h_a.below b12
        have i_b := h_b.below b12
        have i_c := h_c.below b12
        clear hb12
        refine (sto_any 2000000 c w.heap.size _ hb_c hs_c (by omega) i_c (by omega)).mono ?_
        rintro e w13 ⟨x_c, rfl, hex_c, ox_c, hb13⟩
        have z13 := hb13.size
        have a_b := a_b.below hb13 (by omega)
        have a_c := a_c.below hb13 (by omega)
        have xb_b := xb_b.below hb13 (by omega)
        have ox_a := ox_a.below (hb13.mono (by omega))
        have ox_b := ox_b.below (hb13.mono (by omega))
        have b13 := b12.trans (hb13.mono (by omega))
        have i_a := h_a.below b13
        have i_b := h_b.below b13
        have i_c := h_c.below b13
        clear hb13
        have Qx_c := Lib.hid hex_c
        obtain ⟨sx_c, kx_c, tx_c⟩ := S.bounds_of Qx_c.out (by rw [S.size_er]; omega) (by rw [S.bulk_er]; omega)
        clear hex_c
        simp only [S.val]
        have a_bq := a_b
        obtain ⟨a_b_0, a_b_1, a_b_2, a_b_3, a_b_4⟩ := a_bq
        have a_blt : w.heap.size < w13.heap.size := (by omega)
        have a_cq := a_c
        obtain ⟨a_c_0, a_c_1, a_c_2, a_c_3, a_c_4⟩ := a_cq
        have a_clt : w.heap.size + 1 < w13.heap.size := (by omega)
        have xb_bq := xb_b
        obtain ⟨xb_b_0, xb_b_1, xb_b_2, xb_b_3, xb_b_4⟩ := xb_bq
        have xb_blt : w11.heap.size < w13.heap.size := (by omega)
        go_wp2_with fail
        clear a_b_0 a_b_1 a_b_2 a_b_3 a_b_4 a_blt
        clear a_c_0 a_c_1 a_c_2 a_c_3 a_c_4 a_clt
        clear xb_b_0 xb_b_1 xb_b_2 xb_b_3 xb_b_4 xb_blt
        obtain ⟨w14, hw14⟩ : ∃ W, W = w13.alloc (.cells #[.int .i64 x_c.k, .int .i64 x_c.n, .string x_c.t, .slice x_c.sa x_c.s.length x_c.sc, .slice x_c.A x_c.l.length x_c.c] 57) := ⟨_, rfl⟩
        rw [← hw14]
        have hb14 : Below w13.heap.size w13 w14 := by rw [hw14]; exact (Below.refl _ _).alloc (Nat.le_refl _) _
        have z14 : w13.heap.size + 1 ≤ w14.heap.size := by rw [hw14]; simp
        have y14 : w14.heap.size ≤ w13.heap.size + 1 := by rw [hw14]; simp
        have xb_c : S.Box w14 w13.heap.size x_c := by rw [hw14]; exact S.Box.new _ _ _
        clear hw14
        have a_b := a_b.below hb14 (by omega)
        have a_c := a_c.below hb14 (by omega)
        have xb_b := xb_b.below hb14 (by omega)
        have ox_a := ox_a.below (hb14.mono (by omega))
        have ox_b := ox_b.below (hb14.mono (by omega))
        have ox_c := ox_c.below (hb14.mono (by omega))
        have b14 := b13.trans (hb14.mono (by omega))
        have i_a := h_a.below b14
        have i_b := h_b.below b14
        have i_c := h_c.below b14
        clear hb14
        refine (implSame_c x_aA x_ac x_a x_b x_c w14.heap.size _ Qx_a.out Qx_b.out Qx_c.out HX.out hs_a kx_b sx_b kx_c sx_c (ox_a.inn.more (by omega)) (ox_b.inn.more (by omega)) (ox_c.inn.more (by omega)) (by omega)).mono ?_
        rintro e w15 ⟨rfl, hb15⟩
        have z15 := hb15.size
        have a_b := a_b.below hb15 (by omega)
        have a_c := a_c.below hb15 (by omega)
        have xb_b := xb_b.below hb15 (by omega)
        have xb_c := xb_c.below hb15 (by omega)
        have ox_a := ox_a.below (hb15.mono (by omega))
        have ox_b := ox_b.below (hb15.mono (by omega))
        have ox_c := ox_c.below (hb15.mono (by omega))
        have b15 := b14.trans (hb15.mono (by omega))
        have i_a := h_a.below b15
        have i_b := h_b.below b15
        have i_c := h_c.below b15
        clear hb15
        have a_bq := a_b
        obtain ⟨a_b_0, a_b_1, a_b_2, a_b_3, a_b_4⟩ := a_bq
        have a_blt : w.heap.size < w15.heap.size := (by omega)
        have a_cq := a_c
        obtain ⟨a_c_0, a_c_1, a_c_2, a_c_3, a_c_4⟩ := a_cq
        have a_clt : w.heap.size + 1 < w15.heap.size := (by omega)
        have xb_bq := xb_b
        obtain ⟨xb_b_0, xb_b_1, xb_b_2, xb_b_3, xb_b_4⟩ := xb_bq
        have xb_blt : w11.heap.size < w15.heap.size := (by omega)
        have xb_cq := xb_c
        obtain ⟨xb_c_0, xb_c_1, xb_c_2, xb_c_3, xb_c_4⟩ := xb_cq
        have xb_clt : w13.heap.size < w15.heap.size := (by omega)
        go_wp2_with fail
        clear a_b_0 a_b_1 a_b_2 a_b_3 a_b_4 a_blt
        clear a_c_0 a_c_1 a_c_2 a_c_3 a_c_4 a_clt
        clear xb_b_0 xb_b_1 xb_b_2 xb_b_3 xb_b_4 xb_blt
        clear xb_c_0 xb_c_1 xb_c_2 xb_c_3 xb_c_4 xb_clt
        refine (toBdL_any A_a c_a a w.heap.size _ hs_a i_a (by omega)).mono ?_
        rintro e w16 ⟨y_aA, y_ac, y_a, rfl, hey_a, oy_a, hb16⟩
        have z16 := hb16.size
        have a_b := a_b.below hb16 (by omega)
        have a_c := a_c.below hb16 (by omega)
        have xb_b := xb_b.below hb16 (by omega)
        have xb_c := xb_c.below hb16 (by omega)
        have ox_a := ox_a.below (hb16.mono (by omega))
        have ox_b := ox_b.below (hb16.mono (by omega))
        have ox_c := ox_c.below (hb16.mono (by omega))
        have b16 := b15.trans (hb16.mono (by omega))
        have i_a := h_a.below b16
        have i_b := h_b.below b16
        have i_c := h_c.below b16
        clear hb16
        have Qy_a := Lib.hid hey_a
        clear hey_a
        have a_bq := a_b
        obtain ⟨a_b_0, a_b_1, a_b_2, a_b_3, a_b_4⟩ := a_bq
        have a_blt : w.heap.size < w16.heap.size := (by omega)
        have a_cq := a_c
        obtain ⟨a_c_0, a_c_1, a_c_2, a_c_3, a_c_4⟩ := a_cq
        have a_clt : w.heap.size + 1 < w16.heap.size := (by omega)
        have xb_bq := xb_b
        obtain ⟨xb_b_0, xb_b_1, xb_b_2, xb_b_3, xb_b_4⟩ := xb_bq
        have xb_blt : w11.heap.size < w16.heap.size := (by omega)
        have xb_cq := xb_c
        obtain ⟨xb_c_0, xb_c_1, xb_c_2, xb_c_3, xb_c_4⟩ := xb_cq
        have xb_clt : w13.heap.size < w16.heap.size := (by omega)
        go_wp2_with fail
        clear a_b_0 a_b_1 a_b_2 a_b_3 a_b_4 a_blt
        clear a_c_0 a_c_1 a_c_2 a_c_3 a_c_4 a_clt
        clear xb_b_0 xb_b_1 xb_b_2 xb_b_3 xb_b_4 xb_blt
        clear xb_c_0 xb_c_1 xb_c_2 xb_c_3 xb_c_4 xb_clt
        refine (eqBdL_any x_aA x_ac x_a y_aA y_ac y_a w16.heap.size _ (Qx_a.out.trans Qy_a.out.symm) (ox_a.inn.more (by omega)) (oy_a.inn.more (by omega)) (by omega)).mono ?_
        rintro e w17 ⟨rfl, hb17⟩
        have z17 := hb17.size
        have a_b := a_b.below hb17 (by omega)
        have a_c := a_c.below hb17 (by omega)
        have xb_b := xb_b.below hb17 (by omega)
        have xb_c := xb_c.below hb17 (by omega)
        have ox_a := ox_a.below (hb17.mono (by omega))
        have ox_b := ox_b.below (hb17.mono (by omega))
        have ox_c := ox_c.below (hb17.mono (by omega))
        have oy_a := oy_a.below (hb17.mono (by omega))
        have b17 := b16.trans (hb17.mono (by omega))
        have i_a := h_a.below b17
        have i_b := h_b.below b17
        have i_c := h_c.below b17
        clear hb17
        clear oy_a
        have a_bq := a_b
        obtain ⟨a_b_0, a_b_1, a_b_2, a_b_3, a_b_4⟩ := a_bq
        have a_blt : w.heap.size < w17.heap.size := (by omega)
        have a_cq := a_c
        obtain ⟨a_c_0, a_c_1, a_c_2, a_c_3, a_c_4⟩ := a_cq
        have a_clt : w.heap.size + 1 < w17.heap.size := (by omega)
        have xb_bq := xb_b
        obtain ⟨xb_b_0, xb_b_1, xb_b_2, xb_b_3, xb_b_4⟩ := xb_bq
        have xb_blt : w11.heap.size < w17.heap.size := (by omega)
        have xb_cq := xb_c
        obtain ⟨xb_c_0, xb_c_1, xb_c_2, xb_c_3, xb_c_4⟩ := xb_cq
        have xb_clt : w13.heap.size < w17.heap.size := (by omega)
        go_wp2_with fail
        clear a_b_0 a_b_1 a_b_2 a_b_3 a_b_4 a_blt
        clear a_c_0 a_c_1 a_c_2 a_c_3 a_c_4 a_clt
        clear xb_b_0 xb_b_1 xb_b_2 xb_b_3 xb_b_4 xb_blt
        clear xb_c_0 xb_c_1 xb_c_2 xb_c_3 xb_c_4 xb_clt
        have a_bq := a_b
        obtain ⟨a_b_0, a_b_1, a_b_2, a_b_3, a_b_4⟩ := a_bq
        have a_blt : w.heap.size < w17.heap.size := (by omega)
        have a_cq := a_c
        obtain ⟨a_c_0, a_c_1, a_c_2, a_c_3, a_c_4⟩ := a_cq
        have a_clt : w.heap.size + 1 < w17.heap.size := (by omega)
        have xb_bq := xb_b
        obtain ⟨xb_b_0, xb_b_1, xb_b_2, xb_b_3, xb_b_4⟩ := xb_bq
        have xb_blt : w11.heap.size < w17.heap.size := (by omega)
        have xb_cq := xb_c
        obtain ⟨xb_c_0, xb_c_1, xb_c_2, xb_c_3, xb_c_4⟩ := xb_cq
        have xb_clt : w13.heap.size < w17.heap.size := (by omega)
        have tok4 : True := trivial
        have tok5 : True := trivial
        go_region_held3 (fun w' => w'.cell? ⟨w.heap.size, 0, none⟩ = some (.int .i64 b.k) ∧ w'.cell? ⟨w.heap.size, 1, none⟩ = some (.int .i64 b.n) ∧ w'.cell? ⟨w.heap.size, 2, none⟩ = some (.string b.t) ∧ w'.cell? ⟨w.heap.size, 3, none⟩ = some (.slice b.sa b.s.length b.sc) ∧ w'.cell? ⟨w.heap.size, 4, none⟩ = some (.slice b.A b.l.length b.c) ∧ w'.cell? ⟨w11.heap.size, 0, none⟩ = some (.int .i64 x_b.k) ∧ w'.cell? ⟨w11.heap.size, 1, none⟩ = some (.int .i64 x_b.n) ∧ w'.cell? ⟨w11.heap.size, 2, none⟩ = some (.string x_b.t) ∧ w'.cell? ⟨w11.heap.size, 3, none⟩ = some (.slice x_b.sa x_b.s.length x_b.sc) ∧ w'.cell? ⟨w11.heap.size, 4, none⟩ = some (.slice x_b.A x_b.l.length x_b.c)) (go_keep)
          (first
            | (go_at_call 33; have _t := tok4; refine (sto_any 2000000 b w.heap.size _ hb_b hs_b ?_ ?_ ?_).mono ?_; omega; exact i_b.drew; (show w.heap.size ≤ w17.heap.size); omega; rintro e w18 ⟨y_b, rfl, hey_b, oy_b, hb18⟩; have hb18 : Below w17.heap.size w17 w18 := below_undrew hb18; have z18 : w17.heap.size ≤ w18.heap.size := hb18.size; clear tok4; have Qy_b := Lib.hid hey_b; clear hey_b; have a_b := a_b.below hb18 (by omega); have a_c := a_c.below hb18 (by omega); have xb_b := xb_b.below hb18 (by omega); have xb_c := xb_c.below hb18 (by omega); have ox_a := ox_a.below (hb18.mono (by omega)); have ox_b := ox_b.below (hb18.mono (by omega)); have ox_c := ox_c.below (hb18.mono (by omega)); have b18 := b17.trans (hb18.mono (by omega)); have i_a := h_a.below b18; have i_b := h_b.below b18; have i_c := h_c.below b18; clear hb18; have a_bq := a_b; obtain ⟨a_b_0, a_b_1, a_b_2, a_b_3, a_b_4⟩ := a_bq; have a_blt : w.heap.size < w18.heap.size := (by omega); have a_cq := a_c; obtain ⟨a_c_0, a_c_1, a_c_2, a_c_3, a_c_4⟩ := a_cq; have a_clt : w.heap.size + 1 < w18.heap.size := (by omega); have xb_bq := xb_b; obtain ⟨xb_b_0, xb_b_1, xb_b_2, xb_b_3, xb_b_4⟩ := xb_bq; have xb_blt : w11.heap.size < w18.heap.size := (by omega); have xb_cq := xb_c; obtain ⟨xb_c_0, xb_c_1, xb_c_2, xb_c_3, xb_c_4⟩ := xb_cq; have xb_clt : w13.heap.size < w18.heap.size := (by omega))
            | (go_at_call 35; have _t := tok5; refine (seq_all 2000000 x_b y_b w18.heap.size _ ?_ ?_ ?_ ?_).mono ?_; omega; exact ox_b.inn.more (by omega); exact oy_b.inn.more (by omega); omega; rintro e w19 ⟨rfl, hb19⟩; have z19 : w18.heap.size ≤ w19.heap.size := hb19.size; clear tok5; have a_b := a_b.below hb19 (by omega); have a_c := a_c.below hb19 (by omega); have xb_b := xb_b.below hb19 (by omega); have xb_c := xb_c.below hb19 (by omega); have ox_a := ox_a.below (hb19.mono (by omega)); have ox_b := ox_b.below (hb19.mono (by omega)); have ox_c := ox_c.below (hb19.mono (by omega)); have b19 := b18.trans (hb19.mono (by omega)); have i_a := h_a.below b19; have i_b := h_b.below b19; have i_c := h_c.below b19; clear hb19; have a_bq := a_b; obtain ⟨a_b_0, a_b_1, a_b_2, a_b_3, a_b_4⟩ := a_bq; have a_blt : w.heap.size < w19.heap.size := (by omega); have a_cq := a_c; obtain ⟨a_c_0, a_c_1, a_c_2, a_c_3, a_c_4⟩ := a_cq; have a_clt : w.heap.size + 1 < w19.heap.size := (by omega); have xb_bq := xb_b; obtain ⟨xb_b_0, xb_b_1, xb_b_2, xb_b_3, xb_b_4⟩ := xb_bq; have xb_blt : w11.heap.size < w19.heap.size := (by omega); have xb_cq := xb_c; obtain ⟨xb_c_0, xb_c_1, xb_c_2, xb_c_3, xb_c_4⟩ := xb_cq; have xb_clt : w13.heap.size < w19.heap.size := (by omega)))
        clear a_b_0 a_b_1 a_b_2 a_b_3 a_b_4 a_blt
        clear a_c_0 a_c_1 a_c_2 a_c_3 a_c_4 a_clt
        clear xb_b_0 xb_b_1 xb_b_2 xb_b_3 xb_b_4 xb_blt
        clear xb_c_0 xb_c_1 xb_c_2 xb_c_3 xb_c_4 xb_clt
        have Ey_b : S.eqB x_b y_b = true := S.eqB_of_er (Qx_b.out.trans Qy_b.out.symm)
        rw [Ey_b]
        clear Ey_b oy_b
        have a_bq := a_b
        obtain ⟨a_b_0, a_b_1, a_b_2, a_b_3, a_b_4⟩ := a_bq
        have a_blt : w.heap.size < w19.heap.size := (by omega)
        have a_cq := a_c
        obtain ⟨a_c_0, a_c_1, a_c_2, a_c_3, a_c_4⟩ := a_cq
        have a_clt : w.heap.size + 1 < w19.heap.size := (by omega)
        have xb_bq := xb_b
        obtain ⟨xb_b_0, xb_b_1, xb_b_2, xb_b_3, xb_b_4⟩ := xb_bq
        have xb_blt : w11.heap.size < w19.heap.size := (by omega)
        have xb_cq := xb_c
        obtain ⟨xb_c_0, xb_c_1, xb_c_2, xb_c_3, xb_c_4⟩ := xb_cq
        have xb_clt : w13.heap.size < w19.heap.size := (by omega)
        go_wp2_with fail
        clear a_b_0 a_b_1 a_b_2 a_b_3 a_b_4 a_blt
        clear a_c_0 a_c_1 a_c_2 a_c_3 a_c_4 a_clt
        clear xb_b_0 xb_b_1 xb_b_2 xb_b_3 xb_b_4 xb_blt
        clear xb_c_0 xb_c_1 xb_c_2 xb_c_3 xb_c_4 xb_clt
        have a_bq := a_b
        obtain ⟨a_b_0, a_b_1, a_b_2, a_b_3, a_b_4⟩ := a_bq
        have a_blt : w.heap.size < w19.heap.size := (by omega)
        have a_cq := a_c
        obtain ⟨a_c_0, a_c_1, a_c_2, a_c_3, a_c_4⟩ := a_cq
        have a_clt : w.heap.size + 1 < w19.heap.size := (by omega)
        have xb_bq := xb_b
        obtain ⟨xb_b_0, xb_b_1, xb_b_2, xb_b_3, xb_b_4⟩ := xb_bq
        have xb_blt : w11.heap.size < w19.heap.size := (by omega)
        have xb_cq := xb_c
        obtain ⟨xb_c_0, xb_c_1, xb_c_2, xb_c_3, xb_c_4⟩ := xb_cq
        have xb_clt : w13.heap.size < w19.heap.size := (by omega)
        have tok6 : True := trivial
        have tok7 : True := trivial
        go_region_held3 (fun w' => w'.cell? ⟨w.heap.size + 1, 0, none⟩ = some (.int .i64 c.k) ∧ w'.cell? ⟨w.heap.size + 1, 1, none⟩ = some (.int .i64 c.n) ∧ w'.cell? ⟨w.heap.size + 1, 2, none⟩ = some (.string c.t) ∧ w'.cell? ⟨w.heap.size + 1, 3, none⟩ = some (.slice c.sa c.s.length c.sc) ∧ w'.cell? ⟨w.heap.size + 1, 4, none⟩ = some (.slice c.A c.l.length c.c) ∧ w'.cell? ⟨w13.heap.size, 0, none⟩ = some (.int .i64 x_c.k) ∧ w'.cell? ⟨w13.heap.size, 1, none⟩ = some (.int .i64 x_c.n) ∧ w'.cell? ⟨w13.heap.size, 2, none⟩ = some (.string x_c.t) ∧ w'.cell? ⟨w13.heap.size, 3, none⟩ = some (.slice x_c.sa x_c.s.length x_c.sc) ∧ w'.cell? ⟨w13.heap.size, 4, none⟩ = some (.slice x_c.A x_c.l.length x_c.c)) (go_keep)
          (first
            | (go_at_call 33; have _t := tok6; refine (sto_any 2000000 c w.heap.size _ hb_c hs_c ?_ ?_ ?_).mono ?_; omega; exact i_c.drew; (show w.heap.size ≤ w19.heap.size); omega; rintro e w20 ⟨y_c, rfl, hey_c, oy_c, hb20⟩; have hb20 : Below w19.heap.size w19 w20 := below_undrew hb20; have z20 : w19.heap.size ≤ w20.heap.size := hb20.size; clear tok6; have Qy_c := Lib.hid hey_c; clear hey_c; have a_b := a_b.below hb20 (by omega); have a_c := a_c.below hb20 (by omega); have xb_b := xb_b.below hb20 (by omega); have xb_c := xb_c.below hb20 (by omega); have ox_a := ox_a.below (hb20.mono (by omega)); have ox_b := ox_b.below (hb20.mono (by omega)); have ox_c := ox_c.below (hb20.mono (by omega)); have b20 := b19.trans (hb20.mono (by omega)); have i_a := h_a.below b20; have i_b := h_b.below b20; have i_c := h_c.below b20; clear hb20; have a_bq := a_b; obtain ⟨a_b_0, a_b_1, a_b_2, a_b_3, a_b_4⟩ := a_bq; have a_blt : w.heap.size < w20.heap.size := (by omega); have a_cq := a_c; obtain ⟨a_c_0, a_c_1, a_c_2, a_c_3, a_c_4⟩ := a_cq; have a_clt : w.heap.size + 1 < w20.heap.size := (by omega); have xb_bq := xb_b; obtain ⟨xb_b_0, xb_b_1, xb_b_2, xb_b_3, xb_b_4⟩ := xb_bq; have xb_blt : w11.heap.size < w20.heap.size := (by omega); have xb_cq := xb_c; obtain ⟨xb_c_0, xb_c_1, xb_c_2, xb_c_3, xb_c_4⟩ := xb_cq; have xb_clt : w13.heap.size < w20.heap.size := (by omega))
            | (go_at_call 35; have _t := tok7; refine (seq_all 2000000 x_c y_c w20.heap.size _ ?_ ?_ ?_ ?_).mono ?_; omega; exact ox_c.inn.more (by omega); exact oy_c.inn.more (by omega); omega; rintro e w21 ⟨rfl, hb21⟩; have z21 : w20.heap.size ≤ w21.heap.size := hb21.size; clear tok7; have a_b := a_b.below hb21 (by omega); have a_c := a_c.below hb21 (by omega); have xb_b := xb_b.below hb21 (by omega); have xb_c := xb_c.below hb21 (by omega); have ox_a := ox_a.below (hb21.mono (by omega)); have ox_b := ox_b.below (hb21.mono (by omega)); have ox_c := ox_c.below (hb21.mono (by omega)); have b21 := b20.trans (hb21.mono (by omega)); have i_a := h_a.below b21; have i_b := h_b.below b21; have i_c := h_c.below b21; clear hb21; have a_bq := a_b; obtain ⟨a_b_0, a_b_1, a_b_2, a_b_3, a_b_4⟩ := a_bq; have a_blt : w.heap.size < w21.heap.size := (by omega); have a_cq := a_c; obtain ⟨a_c_0, a_c_1, a_c_2, a_c_3, a_c_4⟩ := a_cq; have a_clt : w.heap.size + 1 < w21.heap.size := (by omega); have xb_bq := xb_b; obtain ⟨xb_b_0, xb_b_1, xb_b_2, xb_b_3, xb_b_4⟩ := xb_bq; have xb_blt : w11.heap.size < w21.heap.size := (by omega); have xb_cq := xb_c; obtain ⟨xb_c_0, xb_c_1, xb_c_2, xb_c_3, xb_c_4⟩ := xb_cq; have xb_clt : w13.heap.size < w21.heap.size := (by omega)))
        clear a_b_0 a_b_1 a_b_2 a_b_3 a_b_4 a_blt
        clear a_c_0 a_c_1 a_c_2 a_c_3 a_c_4 a_clt
        clear xb_b_0 xb_b_1 xb_b_2 xb_b_3 xb_b_4 xb_blt
        clear xb_c_0 xb_c_1 xb_c_2 xb_c_3 xb_c_4 xb_clt
        have Ey_c : S.eqB x_c y_c = true := S.eqB_of_er (Qx_c.out.trans Qy_c.out.symm)
        rw [Ey_c]
        clear Ey_c oy_c
        have a_bq := a_b
        obtain ⟨a_b_0, a_b_1, a_b_2, a_b_3, a_b_4⟩ := a_bq
        have a_blt : w.heap.size < w21.heap.size := (by omega)
        have a_cq := a_c
        obtain ⟨a_c_0, a_c_1, a_c_2, a_c_3, a_c_4⟩ := a_cq
        have a_clt : w.heap.size + 1 < w21.heap.size := (by omega)
        have xb_bq := xb_b
        obtain ⟨xb_b_0, xb_b_1, xb_b_2, xb_b_3, xb_b_4⟩ := xb_bq
        have xb_blt : w11.heap.size < w21.heap.size := (by omega)
        have xb_cq := xb_c
        obtain ⟨xb_c_0, xb_c_1, xb_c_2, xb_c_3, xb_c_4⟩ := xb_cq
        have xb_clt : w13.heap.size < w21.heap.size := (by omega)
        go_wp2_with fail
        clear a_b_0 a_b_1 a_b_2 a_b_3 a_b_4 a_blt
        clear a_c_0 a_c_1 a_c_2 a_c_3 a_c_4 a_clt
        clear xb_b_0 xb_b_1 xb_b_2 xb_b_3 xb_b_4 xb_blt
        clear xb_c_0 xb_c_1 xb_c_2 xb_c_3 xb_c_4 xb_clt
        go_ret
        exact ⟨rfl, b21⟩
      · have b0 : Below w.heap.size w w := Below.refl _ _
        have i_a := h_a
        have i_b := h_b
        have i_c := h_c
        go_enter Try.func7, Try.ntmps7
        go_wp2_with fail
        obtain ⟨w1, hw1⟩ : ∃ W, W = w.alloc (.cells #[.int .i64 b.k, .int .i64 b.n, .string b.t, .slice b.sa b.s.length b.sc, .slice b.A b.l.length b.c] 52) := ⟨_, rfl⟩
        rw [← hw1]
        have hb1 : Below w.heap.size w w1 := by rw [hw1]; exact (Below.refl _ _).alloc (Nat.le_refl _) _
        have z1 : w.heap.size + 1 ≤ w1.heap.size := by rw [hw1]; simp
        have y1 : w1.heap.size ≤ w.heap.size + 1 := by rw [hw1]; simp
        have a_b : S.Box w1 w.heap.size b := by rw [hw1]; exact S.Box.new _ _ _
        clear hw1
        have b1 := b0.trans (hb1.mono (by omega))
        have i_a := h_a.below b1
        have i_b := h_b.below b1
        have i_c := h_c.below b1
        clear hb1
        obtain ⟨w2, hw2⟩ : ∃ W, W = w1.alloc (.cells #[.int .i64 c.k, .int .i64 c.n, .string c.t, .slice c.sa c.s.length c.sc, .slice c.A c.l.length c.c] 52) := ⟨_, rfl⟩
        rw [← hw2]
        have hb2 : Below w1.heap.size w1 w2 := by rw [hw2]; exact (Below.refl _ _).alloc (Nat.le_refl _) _
        have z2 : w1.heap.size + 1 ≤ w2.heap.size := by rw [hw2]; simp
        have y2 : w2.heap.size ≤ w1.heap.size + 1 := by rw [hw2]; simp
        have a_c : S.Box w2 w1.heap.size c := by rw [hw2]; exact S.Box.new _ _ _
        clear hw2
        have a_b := a_b.below hb2 (by omega)
        have b2 := b1.trans (hb2.mono (by omega))
        have i_a := h_a.below b2
        have i_b := h_b.below b2
        have i_c := h_c.below b2
        clear hb2
        have e_a_c : w1.heap.size = w.heap.size + 1 := by omega
        rw [e_a_c] at a_c
        clear e_a_c
        refine (szBdL_any A_a c_a a w.heap.size _ 1048576 h_a.cap (by omega) (by omega) i_a (by omega)).mono ?_
        rintro e w3 ⟨rfl, hb3⟩
        have z3 := hb3.size
        have a_b := a_b.below hb3 (by omega)
        have a_c := a_c.below hb3 (by omega)
        have b3 := b2.trans (hb3.mono (by omega))
        have i_a := h_a.below b3
        have i_b := h_b.below b3
        have i_c := h_c.below b3
        clear hb3
        rw [szR_yes (by omega)]
        have n1_a : ¬ (1048576 - (Bd.bulkL a : Int) < 0) := by omega
        have a_bq := a_b
        obtain ⟨a_b_0, a_b_1, a_b_2, a_b_3, a_b_4⟩ := a_bq
        have a_blt : w.heap.size < w3.heap.size := (by omega)
        have a_cq := a_c
        obtain ⟨a_c_0, a_c_1, a_c_2, a_c_3, a_c_4⟩ := a_cq
        have a_clt : w.heap.size + 1 < w3.heap.size := (by omega)
        go_wp2_with fail
        clear a_b_0 a_b_1 a_b_2 a_b_3 a_b_4 a_blt
        clear a_c_0 a_c_1 a_c_2 a_c_3 a_c_4 a_clt
        refine (ssz_any 2000000 b w.heap.size _ (1048576 - (Bd.bulkL a : Int)) hs_b (by omega) (by omega) i_b (by omega)).mono ?_
        rintro e w4 ⟨rfl, hb4⟩
        have z4 := hb4.size
        have a_b := a_b.below hb4 (by omega)
        have a_c := a_c.below hb4 (by omega)
        have b4 := b3.trans (hb4.mono (by omega))
        have i_a := h_a.below b4
        have i_b := h_b.below b4
        have i_c := h_c.below b4
        clear hb4
        rw [szR_yes (by omega)]
        have n1_b : ¬ (1048576 - (Bd.bulkL a : Int) - (b.bulk : Int) < 0) := by omega
        have a_bq := a_b
        obtain ⟨a_b_0, a_b_1, a_b_2, a_b_3, a_b_4⟩ := a_bq
        have a_blt : w.heap.size < w4.heap.size := (by omega)
        have a_cq := a_c
        obtain ⟨a_c_0, a_c_1, a_c_2, a_c_3, a_c_4⟩ := a_cq
        have a_clt : w.heap.size + 1 < w4.heap.size := (by omega)
        go_wp2_with fail
        clear a_b_0 a_b_1 a_b_2 a_b_3 a_b_4 a_blt
        clear a_c_0 a_c_1 a_c_2 a_c_3 a_c_4 a_clt
        refine (ssz_any (c.size + 1) c w.heap.size _ (1048576 - (Bd.bulkL a : Int) - (b.bulk : Int)) (by omega) (by omega) (by omega) i_c (by omega)).mono ?_
        rintro e w5 ⟨rfl, hb5⟩
        have z5 := hb5.size
        have a_b := a_b.below hb5 (by omega)
        have a_c := a_c.below hb5 (by omega)
        have b5 := b4.trans (hb5.mono (by omega))
        have i_a := h_a.below b5
        have i_b := h_b.below b5
        have i_c := h_c.below b5
        clear hb5
        rw [szR_no (by omega)]
        have a_bq := a_b
        obtain ⟨a_b_0, a_b_1, a_b_2, a_b_3, a_b_4⟩ := a_bq
        have a_blt : w.heap.size < w5.heap.size := (by omega)
        have a_cq := a_c
        obtain ⟨a_c_0, a_c_1, a_c_2, a_c_3, a_c_4⟩ := a_cq
        have a_clt : w.heap.size + 1 < w5.heap.size := (by omega)
        go_wp2_with fail
        clear a_b_0 a_b_1 a_b_2 a_b_3 a_b_4 a_blt
        clear a_c_0 a_c_1 a_c_2 a_c_3 a_c_4 a_clt
        go_ret
        exact ⟨rfl, b5⟩
    · have b0 : Below w.heap.size w w := Below.refl _ _
      have i_a := h_a
      have i_b := h_b
      have i_c := h_c
      go_enter Try.func7, Try.ntmps7
      go_wp2_with fail
      obtain ⟨w1, hw1⟩ : ∃ W, W = w.alloc (.cells #[.int .i64 b.k, .int .i64 b.n, .string b.t, .slice b.sa b.s.length b.sc, .slice b.A b.l.length b.c] 52) := ⟨_, rfl⟩
      rw [← hw1]
      have hb1 : Below w.heap.size w w1 := by rw [hw1]; exact (Below.refl _ _).alloc (Nat.le_refl _) _
      have z1 : w.heap.size + 1 ≤ w1.heap.size := by rw [hw1]; simp
      have y1 : w1.heap.size ≤ w.heap.size + 1 := by rw [hw1]; simp
      have a_b : S.Box w1 w.heap.size b := by rw [hw1]; exact S.Box.new _ _ _
      clear hw1
      have b1 := b0.trans (hb1.mono (by omega))
      have i_a := h_a.below b1
      have i_b := h_b.below b1
      have i_c := h_c.below b1
      clear hb1
      obtain ⟨w2, hw2⟩ : ∃ W, W = w1.alloc (.cells #[.int .i64 c.k, .int .i64 c.n, .string c.t, .slice c.sa c.s.length c.sc, .slice c.A c.l.length c.c] 52) := ⟨_, rfl⟩
      rw [← hw2]
      have hb2 : Below w1.heap.size w1 w2 := by rw [hw2]; exact (Below.refl _ _).alloc (Nat.le_refl _) _
      have z2 : w1.heap.size + 1 ≤ w2.heap.size := by rw [hw2]; simp
      have y2 : w2.heap.size ≤ w1.heap.size + 1 := by rw [hw2]; simp
      have a_c : S.Box w2 w1.heap.size c := by rw [hw2]; exact S.Box.new _ _ _
      clear hw2
      have a_b := a_b.below hb2 (by omega)
      have b2 := b1.trans (hb2.mono (by omega))
      have i_a := h_a.below b2
      have i_b := h_b.below b2
      have i_c := h_c.below b2
      clear hb2
      have e_a_c : w1.heap.size = w.heap.size + 1 := by omega
      rw [e_a_c] at a_c
      clear e_a_c
      refine (szBdL_any A_a c_a a w.heap.size _ 1048576 h_a.cap (by omega) (by omega) i_a (by omega)).mono ?_
      rintro e w3 ⟨rfl, hb3⟩
      have z3 := hb3.size
      have a_b := a_b.below hb3 (by omega)
      have a_c := a_c.below hb3 (by omega)
      have b3 := b2.trans (hb3.mono (by omega))
      have i_a := h_a.below b3
      have i_b := h_b.below b3
      have i_c := h_c.below b3
      clear hb3
      rw [szR_yes (by omega)]
      have n1_a : ¬ (1048576 - (Bd.bulkL a : Int) < 0) := by omega
      have a_bq := a_b
      obtain ⟨a_b_0, a_b_1, a_b_2, a_b_3, a_b_4⟩ := a_bq
      have a_blt : w.heap.size < w3.heap.size := (by omega)
      have a_cq := a_c
      obtain ⟨a_c_0, a_c_1, a_c_2, a_c_3, a_c_4⟩ := a_cq
      have a_clt : w.heap.size + 1 < w3.heap.size := (by omega)
      go_wp2_with fail
      clear a_b_0 a_b_1 a_b_2 a_b_3 a_b_4 a_blt
      clear a_c_0 a_c_1 a_c_2 a_c_3 a_c_4 a_clt
      refine (ssz_any (b.size + 1) b w.heap.size _ (1048576 - (Bd.bulkL a : Int)) (by omega) (by omega) (by omega) i_b (by omega)).mono ?_
      rintro e w4 ⟨rfl, hb4⟩
      have z4 := hb4.size
      have a_b := a_b.below hb4 (by omega)
      have a_c := a_c.below hb4 (by omega)
      have b4 := b3.trans (hb4.mono (by omega))
      have i_a := h_a.below b4
      have i_b := h_b.below b4
      have i_c := h_c.below b4
      clear hb4
      rw [szR_no (by omega)]
      have a_bq := a_b
      obtain ⟨a_b_0, a_b_1, a_b_2, a_b_3, a_b_4⟩ := a_bq
      have a_blt : w.heap.size < w4.heap.size := (by omega)
      have a_cq := a_c
      obtain ⟨a_c_0, a_c_1, a_c_2, a_c_3, a_c_4⟩ := a_cq
      have a_clt : w.heap.size + 1 < w4.heap.size := (by omega)
      go_wp2_with fail
      clear a_b_0 a_b_1 a_b_2 a_b_3 a_b_4 a_blt
      clear a_c_0 a_c_1 a_c_2 a_c_3 a_c_4 a_clt
      go_ret
      exact ⟨rfl, b4⟩
  · have b0 : Below w.heap.size w w := Below.refl _ _
    have i_a := h_a
    have i_b := h_b
    have i_c := h_c
    go_enter Try.func7, Try.ntmps7
    go_wp2_with fail
    obtain ⟨w1, hw1⟩ : ∃ W, W = w.alloc (.cells #[.int .i64 b.k, .int .i64 b.n, .string b.t, .slice b.sa b.s.length b.sc, .slice b.A b.l.length b.c] 52) := ⟨_, rfl⟩
    rw [← hw1]
    have hb1 : Below w.heap.size w w1 := by rw [hw1]; exact (Below.refl _ _).alloc (Nat.le_refl _) _
    have z1 : w.heap.size + 1 ≤ w1.heap.size := by rw [hw1]; simp
    have y1 : w1.heap.size ≤ w.heap.size + 1 := by rw [hw1]; simp
    have a_b : S.Box w1 w.heap.size b := by rw [hw1]; exact S.Box.new _ _ _
    clear hw1
    have b1 := b0.trans (hb1.mono (by omega))
    have i_a := h_a.below b1
    have i_b := h_b.below b1
    have i_c := h_c.below b1
    clear hb1
    obtain ⟨w2, hw2⟩ : ∃ W, W = w1.alloc (.cells #[.int .i64 c.k, .int .i64 c.n, .string c.t, .slice c.sa c.s.length c.sc, .slice c.A c.l.length c.c] 52) := ⟨_, rfl⟩
    rw [← hw2]
    have hb2 : Below w1.heap.size w1 w2 := by rw [hw2]; exact (Below.refl _ _).alloc (Nat.le_refl _) _
    have z2 : w1.heap.size + 1 ≤ w2.heap.size := by rw [hw2]; simp
    have y2 : w2.heap.size ≤ w1.heap.size + 1 := by rw [hw2]; simp
    have a_c : S.Box w2 w1.heap.size c := by rw [hw2]; exact S.Box.new _ _ _
    clear hw2
    have a_b := a_b.below hb2 (by omega)
    have b2 := b1.trans (hb2.mono (by omega))
    have i_a := h_a.below b2
    have i_b := h_b.below b2
    have i_c := h_c.below b2
    clear hb2
    have e_a_c : w1.heap.size = w.heap.size + 1 := by omega
    rw [e_a_c] at a_c
    clear e_a_c
    refine (szBdL_any A_a c_a a w.heap.size _ 1048576 h_a.cap (by omega) (by omega) i_a (by omega)).mono ?_
    rintro e w3 ⟨rfl, hb3⟩
    have z3 := hb3.size
    have a_b := a_b.below hb3 (by omega)
    have a_c := a_c.below hb3 (by omega)
    have b3 := b2.trans (hb3.mono (by omega))
    have i_a := h_a.below b3
    have i_b := h_b.below b3
    have i_c := h_c.below b3
    clear hb3
    rw [szR_no (by omega)]
    have a_bq := a_b
    obtain ⟨a_b_0, a_b_1, a_b_2, a_b_3, a_b_4⟩ := a_bq
    have a_blt : w.heap.size < w3.heap.size := (by omega)
    have a_cq := a_c
    obtain ⟨a_c_0, a_c_1, a_c_2, a_c_3, a_c_4⟩ := a_cq
    have a_clt : w.heap.size + 1 < w3.heap.size := (by omega)
    go_wp2_with fail
    clear a_b_0 a_b_1 a_b_2 a_b_3 a_b_4 a_blt
    clear a_c_0 a_c_1 a_c_2 a_c_3 a_c_4 a_clt
    go_ret
    exact ⟨rfl, b3⟩
end Go.Proofs.Ytikjipkhebedfaa
