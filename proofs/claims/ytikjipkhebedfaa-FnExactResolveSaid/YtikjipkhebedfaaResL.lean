/-
  The law on Resolve, walked.
-/
import Derived.Test.YtikjipkhebedfaaResT
import Derived.Test.YtikjipkhebedfaaBindM
import Derived.Test.YtikjipkhebedfaaSynL
import Derived.Test.YtikjipkhebedfaaMeets
import Derived.Deep.RegionHeld3
import Derived.Deep.DeepCutAuto
namespace Go.Proofs.Ytikjipkhebedfaa
open Go.RowKit

set_option maxRecDepth 100000 in
set_option maxHeartbeats 4000000 in
theorem law_res (A_a : Option Addr) (c_a : Nat) (a : List Bd) (b : S) (w : World) (h_a : Bd.E.LIn w w.heap.size A_a c_a a) (h_b : b.In w w.heap.size) : Calls Try.prog 6 #[.slice A_a a.length c_a, b.val] w fun e w' => e = .returned (.bool true) ∧ Below w.heap.size w w' := by
  unfold S.val
  by_cases hz_a : (Bd.bulkL a : Int) ≤ 1048576
  · have hs_a : Bd.bulkL a ≤ 2000000 := by omega
    by_cases hz_b : (b.bulk : Int) ≤ 1048576 - (Bd.bulkL a : Int)
    · have hs_b : b.size ≤ 1048577 := by have := S.bulk_size b; omega
      have hs_b : b.size ≤ 2000000 := by omega
      have hk_b : b.bulk ≤ 1048576 := by omega
      have hb_b : b.bulk ≤ 2000000 := by omega
      obtain ⟨X, hX⟩ : ∃ X, X = Bd.resC a b := ⟨_, rfl⟩
      have HX := Lib.hid hX
      clear hX
      obtain ⟨Y, hY⟩ : ∃ Y, Y = Bd.resB a b := ⟨_, rfl⟩
      have HY := Lib.hid hY
      clear hY
      have hYs : ∀ x, Bd.er x = Y → x.s.length ≤ 2000000 := fun x h => Bd.res_s (h.trans HY.out) (by omega)
      have nq : (X != X) = false := by simp
      have b0 : Below w.heap.size w w := Below.refl _ _
      have i_a := h_a
      have i_b := h_b
      go_enter Try.func6, Try.ntmps6
      go_wp2_with fail
      obtain ⟨w1, hw1⟩ : ∃ W, W = w.alloc (.cells #[.int .i64 b.k, .int .i64 b.n, .string b.t, .slice b.sa b.s.length b.sc, .slice b.A b.l.length b.c] 52) := ⟨_, rfl⟩
      rw [← hw1]
      have hb1 : Below w.heap.size w w1 := by rw [hw1]; exact (Below.refl _ _).alloc (Nat.le_refl _) _
      have z1 : w.heap.size + 1 ≤ w1.heap.size := by rw [hw1]; simp
      have y1 : w1.heap.size ≤ w.heap.size + 1 := by rw [hw1]; simp
      have a_b : S.Box w1 w.heap.size b := by rw [hw1]; exact S.Box.new _ _ _
      clear hw1
      have b1 := b0.trans (hb1.mono (by omega))
      have i_a := h_a.below b1
      have i_b := h_b.below b1
      clear hb1
      refine (szBdL_any A_a c_a a w.heap.size _ 1048576 h_a.cap (by omega) (by omega) i_a (by omega)).mono ?_
      rintro e w2 ⟨rfl, hb2⟩
      have z2 := hb2.size
      have a_b := a_b.below hb2 (by omega)
      have b2 := b1.trans (hb2.mono (by omega))
      have i_a := h_a.below b2
      have i_b := h_b.below b2
      clear hb2
      rw [szR_yes (by omega)]
      have n1_a : ¬ (1048576 - (Bd.bulkL a : Int) < 0) := by omega
      have a_bq := a_b
      obtain ⟨a_b_0, a_b_1, a_b_2, a_b_3, a_b_4⟩ := a_bq
      have a_blt : w.heap.size < w2.heap.size := (by omega)
      go_wp2_with fail
      clear a_b_0 a_b_1 a_b_2 a_b_3 a_b_4 a_blt
      refine (ssz_any 2000000 b w.heap.size _ (1048576 - (Bd.bulkL a : Int)) hs_b (by omega) (by omega) i_b (by omega)).mono ?_
      rintro e w3 ⟨rfl, hb3⟩
      have z3 := hb3.size
      have a_b := a_b.below hb3 (by omega)
      have b3 := b2.trans (hb3.mono (by omega))
      have i_a := h_a.below b3
      have i_b := h_b.below b3
      clear hb3
      rw [szR_yes (by omega)]
      have n1_b : ¬ (1048576 - (Bd.bulkL a : Int) - (b.bulk : Int) < 0) := by omega
      have a_bq := a_b
      obtain ⟨a_b_0, a_b_1, a_b_2, a_b_3, a_b_4⟩ := a_bq
      have a_blt : w.heap.size < w3.heap.size := (by omega)
      go_upto_region 8 with fail
      go_cut [6, 7] (fun s6 s7 wx => s7 = .int .i64 X ∧ Bd.Meets w3 Y s6 wx)
      case first =>
        have tok0 : True := trivial
        have tok1 : True := trivial
        have tok2 : True := trivial
        have r3 : Below w3.heap.size w3 w3 := Below.refl _ _
        go_region_held3 (fun w' => w'.cell? ⟨w.heap.size, 0, none⟩ = some (.int .i64 b.k) ∧ w'.cell? ⟨w.heap.size, 1, none⟩ = some (.int .i64 b.n) ∧ w'.cell? ⟨w.heap.size, 2, none⟩ = some (.string b.t) ∧ w'.cell? ⟨w.heap.size, 3, none⟩ = some (.slice b.sa b.s.length b.sc) ∧ w'.cell? ⟨w.heap.size, 4, none⟩ = some (.slice b.A b.l.length b.c)) (go_keep)
          (first
            | (go_simp; go_at_call 23; have _t := tok0; refine gen_world ?_; intro Wc hWc; have hbc : Below w3.heap.size w3 Wc := (by first | (rw [hWc]; exact Below.refl _ _) | (rw [hWc]; exact (Below.refl _ _).drew) | (rw [hWc]; exact (Below.refl _ _).alloc (Nat.le_refl _) _) | (rw [hWc]; exact (Below.refl _ _).drew.alloc (Nat.le_refl _) _)); have zc : w3.heap.size ≤ Wc.heap.size := hbc.size; (first | (have KZ := KZ.below hbc KZ.lt; have kzl := KZ.lt) | (have KZ : D.Blk Wc w3.heap.size 43 #[.string ⟨#[]⟩, .slice none 0 0, .int .i64 0, .int .i64 0] := (by rw [hWc]; exact D.Blk.new _ _ _); have kz0 : w3.heap.size ≤ w3.heap.size := (by omega); have kzl := KZ.lt; have kzn0 : w3.heap.size ≠ w.heap.size := (by omega); have kzm0 : w.heap.size ≠ w3.heap.size := (by omega)) | skip); clear hWc; have bc := b3.trans (hbc.mono (by omega)); have i_a := h_a.below bc; have i_b := h_b.below bc; have hcon := toBdL_any A_a c_a a w.heap.size Wc hs_a i_a (by omega); (first | (with_reducible refine hcon.mono ?_) | (simp only [Bd.val, S.val] at hcon; with_reducible refine hcon.mono ?_)); clear hcon; rintro e w4 ⟨d1_aA, d1_ac, d1_a, rfl, hed1_a, od1_a, hq4⟩; (first | (have KZ := KZ.below hq4 KZ.lt) | skip); have hb4 : Below w3.heap.size w3 w4 := hbc.trans (hq4.mono zc); have zq4 : Wc.heap.size ≤ w4.heap.size := hq4.size; have z4 : w3.heap.size ≤ w4.heap.size := hb4.size; have r4 : Below w3.heap.size w3 w4 := r3.trans (hb4.mono (by omega)); clear tok0 hbc bc; have Qd1_a := Lib.hid hed1_a; have sd1_a : Bd.bulkL d1_a ≤ 2000000 := (by rw [← Bd.bulkL_er, Qd1_a.out, Bd.bulkL_er]; exact hs_a); clear hed1_a; clear a_b_0 a_b_1 a_b_2 a_b_3 a_b_4 a_blt; have a_b := a_b.below hb4 (by omega); have b4 := b3.trans (hb4.mono (by omega)); have i_a := h_a.below b4; have i_b := h_b.below b4; clear hb4; clear hq4; have a_bq := a_b; obtain ⟨a_b_0, a_b_1, a_b_2, a_b_3, a_b_4⟩ := a_bq; have a_blt : w.heap.size < w4.heap.size := (by omega))
            | (go_simp; go_at_call 33; have _t := tok1; refine gen_world ?_; intro Wc hWc; have hbc : Below w4.heap.size w4 Wc := (by first | (rw [hWc]; exact Below.refl _ _) | (rw [hWc]; exact (Below.refl _ _).drew) | (rw [hWc]; exact (Below.refl _ _).alloc (Nat.le_refl _) _) | (rw [hWc]; exact (Below.refl _ _).drew.alloc (Nat.le_refl _) _)); have zc : w4.heap.size ≤ Wc.heap.size := hbc.size; (first | (have KZ := KZ.below hbc KZ.lt; have kzl := KZ.lt) | (have KZ : D.Blk Wc w4.heap.size 43 #[.string ⟨#[]⟩, .slice none 0 0, .int .i64 0, .int .i64 0] := (by rw [hWc]; exact D.Blk.new _ _ _); have kz0 : w3.heap.size ≤ w4.heap.size := (by omega); have kzl := KZ.lt; have kzn0 : w4.heap.size ≠ w.heap.size := (by omega); have kzm0 : w.heap.size ≠ w4.heap.size := (by omega)) | skip); clear hWc; have od1_a := od1_a.below (hbc.mono (by omega)); have bc := b4.trans (hbc.mono (by omega)); have i_a := h_a.below bc; have i_b := h_b.below bc; have hcon := sto_any 2000000 b w.heap.size Wc hb_b hs_b (by omega) i_b (by omega); (first | (with_reducible refine hcon.mono ?_) | (simp only [Bd.val, S.val] at hcon; with_reducible refine hcon.mono ?_)); clear hcon; rintro e w5 ⟨d1_b, rfl, hed1_b, od1_b, hq5⟩; (first | (have KZ := KZ.below hq5 KZ.lt) | skip); have hb5 : Below w4.heap.size w4 w5 := hbc.trans (hq5.mono zc); have zq5 : Wc.heap.size ≤ w5.heap.size := hq5.size; have z5 : w4.heap.size ≤ w5.heap.size := hb5.size; have r5 : Below w3.heap.size w3 w5 := r4.trans (hb5.mono (by omega)); clear tok1 hbc bc; have od1_a := od1_a.below (hq5.mono (by omega)); have Qd1_b := Lib.hid hed1_b; obtain ⟨sd1_b, kd1_b, td1_b⟩ := S.bounds_of Qd1_b.out (by rw [S.size_er]; omega) (by rw [S.bulk_er]; omega); clear hed1_b; clear a_b_0 a_b_1 a_b_2 a_b_3 a_b_4 a_blt; have a_b := a_b.below hb5 (by omega); have b5 := b4.trans (hb5.mono (by omega)); have i_a := h_a.below b5; have i_b := h_b.below b5; clear hb5; clear hq5; have a_bq := a_b; obtain ⟨a_b_0, a_b_1, a_b_2, a_b_3, a_b_4⟩ := a_bq; have a_blt : w.heap.size < w5.heap.size := (by omega))
            | (go_simp; go_at_call 37; have _t := tok2; refine gen_world ?_; intro Wc hWc; have hbc : Below w5.heap.size w5 Wc := (by first | (rw [hWc]; exact Below.refl _ _) | (rw [hWc]; exact (Below.refl _ _).drew) | (rw [hWc]; exact (Below.refl _ _).alloc (Nat.le_refl _) _) | (rw [hWc]; exact (Below.refl _ _).drew.alloc (Nat.le_refl _) _)); have zc : w5.heap.size ≤ Wc.heap.size := hbc.size; (first | (have KZ := KZ.below hbc KZ.lt; have kzl := KZ.lt) | (have KZ : D.Blk Wc w5.heap.size 43 #[.string ⟨#[]⟩, .slice none 0 0, .int .i64 0, .int .i64 0] := (by rw [hWc]; exact D.Blk.new _ _ _); have kz0 : w3.heap.size ≤ w5.heap.size := (by omega); have kzl := KZ.lt; have kzn0 : w5.heap.size ≠ w.heap.size := (by omega); have kzm0 : w.heap.size ≠ w5.heap.size := (by omega)) | skip); clear hWc; have od1_a := od1_a.below (hbc.mono (by omega)); have od1_b := od1_b.below (hbc.mono (by omega)); have bc := b5.trans (hbc.mono (by omega)); have i_a := h_a.below bc; have i_b := h_b.below bc; have hcon := specResT_c d1_aA d1_ac d1_a d1_b Wc.heap.size Wc Qd1_a.out Qd1_b.out HX.out HY.out hs_a kd1_b sd1_b (od1_a.inn.more (by omega)) (od1_b.inn.more (by omega)) (by omega); (first | (with_reducible refine hcon.mono ?_) | (simp only [Bd.val, S.val] at hcon; with_reducible refine hcon.mono ?_)); clear hcon; rintro e w6 ⟨vv, rfl, hevv, ovv, hq6⟩; (first | (have KZ := KZ.below hq6 KZ.lt) | skip); have hb6 : Below w5.heap.size w5 w6 := hbc.trans (hq6.mono zc); have zq6 : Wc.heap.size ≤ w6.heap.size := hq6.size; have z6 : w5.heap.size ≤ w6.heap.size := hb6.size; have r6 : Below w3.heap.size w3 w6 := r5.trans (hb6.mono (by omega)); clear tok2 hbc bc; have od1_a := od1_a.below (hq6.mono (by omega)); have od1_b := od1_b.below (hq6.mono (by omega)); have Qvv := Lib.hid hevv; have svv : vv.s.length ≤ 2000000 := hYs vv Qvv.out; clear hevv; clear a_b_0 a_b_1 a_b_2 a_b_3 a_b_4 a_blt; have a_b := a_b.below hb6 (by omega); have b6 := b5.trans (hb6.mono (by omega)); have i_a := h_a.below b6; have i_b := h_b.below b6; clear hb6; simp only [Bd.val]; clear hq6; (first | (have d0 : World.cell? _ ⟨_, 0, none⟩ = some (.string ⟨#[]⟩) := KZ.cell 0; have d1 : World.cell? _ ⟨_, 1, none⟩ = some (.slice none 0 0) := KZ.cell 1; have d2 : World.cell? _ ⟨_, 2, none⟩ = some (.int .i64 0) := KZ.cell 2; have d3 : World.cell? _ ⟨_, 3, none⟩ = some (.int .i64 0) := KZ.cell 3; have f0 := KZ.frozen 0; have f1 := KZ.frozen 1; have f2 := KZ.frozen 2; have f3 := KZ.frozen 3; have kzlt := KZ.lt) | skip); have a_bq := a_b; obtain ⟨a_b_0, a_b_1, a_b_2, a_b_3, a_b_4⟩ := a_bq; have a_blt : w.heap.size < w6.heap.size := (by omega))
            | fail)
        all_goals (go_wp2_with fail; go_meet; refine ⟨rfl, ?_⟩; first
          | exact Bd.Meets.new r6 Qvv ovv (by omega) (by omega)
          | exact Bd.Meets.put (d := Bd.zeroB) r6 Qvv ovv (by omega) (by omega) (by omega) KZ)
      case rest =>
        clear a_b_0 a_b_1 a_b_2 a_b_3 a_b_4 a_blt
        obtain ⟨w4, rfl⟩ : ∃ W, W = wc := ⟨_, rfl⟩
        obtain ⟨rfl, p_vv, vv, rfl, wb, Qvv, ovv, plvv, phvv, hb4⟩ := hcut
        have svv : vv.s.length ≤ 2000000 := hYs vv Qvv.out
        have z4 : w3.heap.size ≤ w4.heap.size := hb4.size
        have a_b := a_b.below hb4 (by omega)
        have b4 := b3.trans (hb4.mono (by omega))
        have i_a := h_a.below b4
        have i_b := h_b.below b4
        clear hb4
        have a_bq := a_b
        obtain ⟨a_b_0, a_b_1, a_b_2, a_b_3, a_b_4⟩ := a_bq
        have a_blt : w.heap.size < w4.heap.size := (by omega)
        have wbq := wb
        obtain ⟨wb_0, wb_1, wb_2, wb_3⟩ := wbq
        have wblt : p_vv < w4.heap.size := (by omega)
        go_wp2_with fail
        clear a_b_0 a_b_1 a_b_2 a_b_3 a_b_4 a_blt
        clear wb_0 wb_1 wb_2 wb_3 wblt
        refine (toBdL_any A_a c_a a w.heap.size _ hs_a i_a (by omega)).mono ?_
        rintro e w5 ⟨x_aA, x_ac, x_a, rfl, hex_a, ox_a, hb5⟩
        have z5 := hb5.size
        have a_b := a_b.below hb5 (by omega)
        have wb := wb.below hb5 (by omega)
        have ovv := ovv.below (hb5.mono (by omega))
        have b5 := b4.trans (hb5.mono (by omega))
        have i_a := h_a.below b5
        have i_b := h_b.below b5
        clear hb5
        have Qx_a := Lib.hid hex_a
        have sx_a : Bd.bulkL x_a ≤ 2000000 := (by rw [← Bd.bulkL_er, Qx_a.out, Bd.bulkL_er]; exact hs_a)
        clear hex_a
        have a_bq := a_b
        obtain ⟨a_b_0, a_b_1, a_b_2, a_b_3, a_b_4⟩ := a_bq
        have a_blt : w.heap.size < w5.heap.size := (by omega)
        have wbq := wb
        obtain ⟨wb_0, wb_1, wb_2, wb_3⟩ := wbq
        have wblt : p_vv < w5.heap.size := (by omega)
        go_wp2_with fail
        clear a_b_0 a_b_1 a_b_2 a_b_3 a_b_4 a_blt
        clear wb_0 wb_1 wb_2 wb_3 wblt
        refine (sto_any 2000000 b w.heap.size _ hb_b hs_b (by omega) i_b (by omega)).mono ?_
        rintro e w6 ⟨x_b, rfl, hex_b, ox_b, hb6⟩
        have z6 := hb6.size
        have a_b := a_b.below hb6 (by omega)
        have wb := wb.below hb6 (by omega)
        have ovv := ovv.below (hb6.mono (by omega))
        have ox_a := ox_a.below (hb6.mono (by omega))
        have b6 := b5.trans (hb6.mono (by omega))
        have i_a := h_a.below b6
        have i_b := h_b.below b6
        clear hb6
        have Qx_b := Lib.hid hex_b
        obtain ⟨sx_b, kx_b, tx_b⟩ := S.bounds_of Qx_b.out (by rw [S.size_er]; omega) (by rw [S.bulk_er]; omega)
        clear hex_b
        simp only [S.val]
        have a_bq := a_b
        obtain ⟨a_b_0, a_b_1, a_b_2, a_b_3, a_b_4⟩ := a_bq
        have a_blt : w.heap.size < w6.heap.size := (by omega)
        have wbq := wb
        obtain ⟨wb_0, wb_1, wb_2, wb_3⟩ := wbq
        have wblt : p_vv < w6.heap.size := (by omega)
        go_wp2_with fail
        clear a_b_0 a_b_1 a_b_2 a_b_3 a_b_4 a_blt
        clear wb_0 wb_1 wb_2 wb_3 wblt
        obtain ⟨w7, hw7⟩ : ∃ W, W = w6.alloc (.cells #[.int .i64 x_b.k, .int .i64 x_b.n, .string x_b.t, .slice x_b.sa x_b.s.length x_b.sc, .slice x_b.A x_b.l.length x_b.c] 57) := ⟨_, rfl⟩
        rw [← hw7]
        have hb7 : Below w6.heap.size w6 w7 := by rw [hw7]; exact (Below.refl _ _).alloc (Nat.le_refl _) _
        have z7 : w6.heap.size + 1 ≤ w7.heap.size := by rw [hw7]; simp
        have y7 : w7.heap.size ≤ w6.heap.size + 1 := by rw [hw7]; simp
        have xb_b : S.Box w7 w6.heap.size x_b := by rw [hw7]; exact S.Box.new _ _ _
        clear hw7
        have a_b := a_b.below hb7 (by omega)
        have wb := wb.below hb7 (by omega)
        have ovv := ovv.below (hb7.mono (by omega))
        have ox_a := ox_a.below (hb7.mono (by omega))
        have ox_b := ox_b.below (hb7.mono (by omega))
        have b7 := b6.trans (hb7.mono (by omega))
        have i_a := h_a.below b7
        have i_b := h_b.below b7
        clear hb7
        refine (implResT_c x_aA x_ac x_a x_b w7.heap.size _ Qx_a.out Qx_b.out HX.out HY.out hs_a kx_b sx_b (ox_a.inn.more (by omega)) (ox_b.inn.more (by omega)) (by omega)).mono ?_
        rintro e w8 ⟨gv, rfl, hegv, ogv, hb8⟩
        have z8 := hb8.size
        have a_b := a_b.below hb8 (by omega)
        have wb := wb.below hb8 (by omega)
        have xb_b := xb_b.below hb8 (by omega)
        have ovv := ovv.below (hb8.mono (by omega))
        have ox_a := ox_a.below (hb8.mono (by omega))
        have ox_b := ox_b.below (hb8.mono (by omega))
        have b8 := b7.trans (hb8.mono (by omega))
        have i_a := h_a.below b8
        have i_b := h_b.below b8
        clear hb8
        have Qgv := Lib.hid hegv
        have sgv : gv.s.length ≤ 2000000 := hYs gv Qgv.out
        clear hegv
        simp only [Bd.val]
        have a_bq := a_b
        obtain ⟨a_b_0, a_b_1, a_b_2, a_b_3, a_b_4⟩ := a_bq
        have a_blt : w.heap.size < w8.heap.size := (by omega)
        have wbq := wb
        obtain ⟨wb_0, wb_1, wb_2, wb_3⟩ := wbq
        have wblt : p_vv < w8.heap.size := (by omega)
        have xb_bq := xb_b
        obtain ⟨xb_b_0, xb_b_1, xb_b_2, xb_b_3, xb_b_4⟩ := xb_bq
        have xb_blt : w6.heap.size < w8.heap.size := (by omega)
        go_wp2_with fail
        clear a_b_0 a_b_1 a_b_2 a_b_3 a_b_4 a_blt
        clear wb_0 wb_1 wb_2 wb_3 wblt
        clear xb_b_0 xb_b_1 xb_b_2 xb_b_3 xb_b_4 xb_blt
        obtain ⟨w9, hw9⟩ : ∃ W, W = w8.alloc (.cells #[.string gv.t, .slice gv.sa gv.s.length gv.sc, .int .i64 gv.k, .int .i64 gv.n] 43) := ⟨_, rfl⟩
        rw [← hw9]
        have hb9 : Below w8.heap.size w8 w9 := by rw [hw9]; exact (Below.refl _ _).alloc (Nat.le_refl _) _
        have z9 : w8.heap.size + 1 ≤ w9.heap.size := by rw [hw9]; simp
        have y9 : w9.heap.size ≤ w8.heap.size + 1 := by rw [hw9]; simp
        have gb : Bd.Box w9 w8.heap.size gv := by rw [hw9]; exact Bd.Box.new _ _ _
        clear hw9
        have a_b := a_b.below hb9 (by omega)
        have wb := wb.below hb9 (by omega)
        have xb_b := xb_b.below hb9 (by omega)
        have ovv := ovv.below (hb9.mono (by omega))
        have ox_a := ox_a.below (hb9.mono (by omega))
        have ox_b := ox_b.below (hb9.mono (by omega))
        have ogv := ogv.below (hb9.mono (by omega))
        have b9 := b8.trans (hb9.mono (by omega))
        have i_a := h_a.below b9
        have i_b := h_b.below b9
        clear hb9
        refine (eqBd_any gv vv w9.heap.size _ (Qgv.out.trans Qvv.out.symm) (ogv.inn.more (by omega)) (ovv.inn.more (by omega)) (by omega)).mono ?_
        rintro e w10 ⟨rfl, hb10⟩
        have z10 := hb10.size
        have a_b := a_b.below hb10 (by omega)
        have wb := wb.below hb10 (by omega)
        have xb_b := xb_b.below hb10 (by omega)
        have gb := gb.below hb10 (by omega)
        have ovv := ovv.below (hb10.mono (by omega))
        have ox_a := ox_a.below (hb10.mono (by omega))
        have ox_b := ox_b.below (hb10.mono (by omega))
        have ogv := ogv.below (hb10.mono (by omega))
        have b10 := b9.trans (hb10.mono (by omega))
        have i_a := h_a.below b10
        have i_b := h_b.below b10
        clear hb10
        have a_bq := a_b
        obtain ⟨a_b_0, a_b_1, a_b_2, a_b_3, a_b_4⟩ := a_bq
        have a_blt : w.heap.size < w10.heap.size := (by omega)
        have wbq := wb
        obtain ⟨wb_0, wb_1, wb_2, wb_3⟩ := wbq
        have wblt : p_vv < w10.heap.size := (by omega)
        have xb_bq := xb_b
        obtain ⟨xb_b_0, xb_b_1, xb_b_2, xb_b_3, xb_b_4⟩ := xb_bq
        have xb_blt : w6.heap.size < w10.heap.size := (by omega)
        have gbq := gb
        obtain ⟨gb_0, gb_1, gb_2, gb_3⟩ := gbq
        have gblt : w8.heap.size < w10.heap.size := (by omega)
        go_wp2_with fail
        clear a_b_0 a_b_1 a_b_2 a_b_3 a_b_4 a_blt
        clear wb_0 wb_1 wb_2 wb_3 wblt
        clear xb_b_0 xb_b_1 xb_b_2 xb_b_3 xb_b_4 xb_blt
        clear gb_0 gb_1 gb_2 gb_3 gblt
        refine (toBdL_any A_a c_a a w.heap.size _ hs_a i_a (by omega)).mono ?_
        rintro e w11 ⟨y_aA, y_ac, y_a, rfl, hey_a, oy_a, hb11⟩
        have z11 := hb11.size
        have a_b := a_b.below hb11 (by omega)
        have wb := wb.below hb11 (by omega)
        have xb_b := xb_b.below hb11 (by omega)
        have gb := gb.below hb11 (by omega)
        have ovv := ovv.below (hb11.mono (by omega))
        have ox_a := ox_a.below (hb11.mono (by omega))
        have ox_b := ox_b.below (hb11.mono (by omega))
        have ogv := ogv.below (hb11.mono (by omega))
        have b11 := b10.trans (hb11.mono (by omega))
        have i_a := h_a.below b11
        have i_b := h_b.below b11
        clear hb11
        have Qy_a := Lib.hid hey_a
        clear hey_a
        have a_bq := a_b
        obtain ⟨a_b_0, a_b_1, a_b_2, a_b_3, a_b_4⟩ := a_bq
        have a_blt : w.heap.size < w11.heap.size := (by omega)
        have wbq := wb
        obtain ⟨wb_0, wb_1, wb_2, wb_3⟩ := wbq
        have wblt : p_vv < w11.heap.size := (by omega)
        have xb_bq := xb_b
        obtain ⟨xb_b_0, xb_b_1, xb_b_2, xb_b_3, xb_b_4⟩ := xb_bq
        have xb_blt : w6.heap.size < w11.heap.size := (by omega)
        have gbq := gb
        obtain ⟨gb_0, gb_1, gb_2, gb_3⟩ := gbq
        have gblt : w8.heap.size < w11.heap.size := (by omega)
        go_wp2_with fail
        clear a_b_0 a_b_1 a_b_2 a_b_3 a_b_4 a_blt
        clear wb_0 wb_1 wb_2 wb_3 wblt
        clear xb_b_0 xb_b_1 xb_b_2 xb_b_3 xb_b_4 xb_blt
        clear gb_0 gb_1 gb_2 gb_3 gblt
        refine (eqBdL_any x_aA x_ac x_a y_aA y_ac y_a w11.heap.size _ (Qx_a.out.trans Qy_a.out.symm) (ox_a.inn.more (by omega)) (oy_a.inn.more (by omega)) (by omega)).mono ?_
        rintro e w12 ⟨rfl, hb12⟩
        have z12 := hb12.size
        have a_b := a_b.below hb12 (by omega)
        have wb := wb.below hb12 (by omega)
        have xb_b := xb_b.below hb12 (by omega)
        have gb := gb.below hb12 (by omega)
        have ovv := ovv.below (hb12.mono (by omega))
        have ox_a := ox_a.below (hb12.mono (by omega))
        have ox_b := ox_b.below (hb12.mono (by omega))
        have ogv := ogv.below (hb12.mono (by omega))
        have oy_a := oy_a.below (hb12.mono (by omega))
        have b12 := b11.trans (hb12.mono (by omega))
        have i_a := h_a.below b12
        have i_b := h_b.below b12
        clear hb12
        clear oy_a
        have a_bq := a_b
        obtain ⟨a_b_0, a_b_1, a_b_2, a_b_3, a_b_4⟩ := a_bq
        have a_blt : w.heap.size < w12.heap.size := (by omega)
        have wbq := wb
        obtain ⟨wb_0, wb_1, wb_2, wb_3⟩ := wbq
        have wblt : p_vv < w12.heap.size := (by omega)
        have xb_bq := xb_b
        obtain ⟨xb_b_0, xb_b_1, xb_b_2, xb_b_3, xb_b_4⟩ := xb_bq
        have xb_blt : w6.heap.size < w12.heap.size := (by omega)
        have gbq := gb
        obtain ⟨gb_0, gb_1, gb_2, gb_3⟩ := gbq
        have gblt : w8.heap.size < w12.heap.size := (by omega)
        go_wp2_with fail
        clear a_b_0 a_b_1 a_b_2 a_b_3 a_b_4 a_blt
        clear wb_0 wb_1 wb_2 wb_3 wblt
        clear xb_b_0 xb_b_1 xb_b_2 xb_b_3 xb_b_4 xb_blt
        clear gb_0 gb_1 gb_2 gb_3 gblt
        have a_bq := a_b
        obtain ⟨a_b_0, a_b_1, a_b_2, a_b_3, a_b_4⟩ := a_bq
        have a_blt : w.heap.size < w12.heap.size := (by omega)
        have wbq := wb
        obtain ⟨wb_0, wb_1, wb_2, wb_3⟩ := wbq
        have wblt : p_vv < w12.heap.size := (by omega)
        have xb_bq := xb_b
        obtain ⟨xb_b_0, xb_b_1, xb_b_2, xb_b_3, xb_b_4⟩ := xb_bq
        have xb_blt : w6.heap.size < w12.heap.size := (by omega)
        have gbq := gb
        obtain ⟨gb_0, gb_1, gb_2, gb_3⟩ := gbq
        have gblt : w8.heap.size < w12.heap.size := (by omega)
        have tok3 : True := trivial
        have tok4 : True := trivial
        go_region_held3 (fun w' => w'.cell? ⟨w.heap.size, 0, none⟩ = some (.int .i64 b.k) ∧ w'.cell? ⟨w.heap.size, 1, none⟩ = some (.int .i64 b.n) ∧ w'.cell? ⟨w.heap.size, 2, none⟩ = some (.string b.t) ∧ w'.cell? ⟨w.heap.size, 3, none⟩ = some (.slice b.sa b.s.length b.sc) ∧ w'.cell? ⟨w.heap.size, 4, none⟩ = some (.slice b.A b.l.length b.c) ∧ w'.cell? ⟨w6.heap.size, 0, none⟩ = some (.int .i64 x_b.k) ∧ w'.cell? ⟨w6.heap.size, 1, none⟩ = some (.int .i64 x_b.n) ∧ w'.cell? ⟨w6.heap.size, 2, none⟩ = some (.string x_b.t) ∧ w'.cell? ⟨w6.heap.size, 3, none⟩ = some (.slice x_b.sa x_b.s.length x_b.sc) ∧ w'.cell? ⟨w6.heap.size, 4, none⟩ = some (.slice x_b.A x_b.l.length x_b.c)) (go_keep)
          (first
            | (go_at_call 33; have _t := tok3; refine (sto_any 2000000 b w.heap.size _ hb_b hs_b ?_ ?_ ?_).mono ?_; omega; exact i_b.drew; (show w.heap.size ≤ w12.heap.size); omega; rintro e w13 ⟨y_b, rfl, hey_b, oy_b, hb13⟩; have hb13 : Below w12.heap.size w12 w13 := below_undrew hb13; have z13 : w12.heap.size ≤ w13.heap.size := hb13.size; clear tok3; have Qy_b := Lib.hid hey_b; clear hey_b; have a_b := a_b.below hb13 (by omega); have wb := wb.below hb13 (by omega); have xb_b := xb_b.below hb13 (by omega); have gb := gb.below hb13 (by omega); have ovv := ovv.below (hb13.mono (by omega)); have ox_a := ox_a.below (hb13.mono (by omega)); have ox_b := ox_b.below (hb13.mono (by omega)); have ogv := ogv.below (hb13.mono (by omega)); have b13 := b12.trans (hb13.mono (by omega)); have i_a := h_a.below b13; have i_b := h_b.below b13; clear hb13; have a_bq := a_b; obtain ⟨a_b_0, a_b_1, a_b_2, a_b_3, a_b_4⟩ := a_bq; have a_blt : w.heap.size < w13.heap.size := (by omega); have wbq := wb; obtain ⟨wb_0, wb_1, wb_2, wb_3⟩ := wbq; have wblt : p_vv < w13.heap.size := (by omega); have xb_bq := xb_b; obtain ⟨xb_b_0, xb_b_1, xb_b_2, xb_b_3, xb_b_4⟩ := xb_bq; have xb_blt : w6.heap.size < w13.heap.size := (by omega); have gbq := gb; obtain ⟨gb_0, gb_1, gb_2, gb_3⟩ := gbq; have gblt : w8.heap.size < w13.heap.size := (by omega))
            | (go_at_call 35; have _t := tok4; refine (seq_all 2000000 x_b y_b w13.heap.size _ ?_ ?_ ?_ ?_).mono ?_; omega; exact ox_b.inn.more (by omega); exact oy_b.inn.more (by omega); omega; rintro e w14 ⟨rfl, hb14⟩; have z14 : w13.heap.size ≤ w14.heap.size := hb14.size; clear tok4; have a_b := a_b.below hb14 (by omega); have wb := wb.below hb14 (by omega); have xb_b := xb_b.below hb14 (by omega); have gb := gb.below hb14 (by omega); have ovv := ovv.below (hb14.mono (by omega)); have ox_a := ox_a.below (hb14.mono (by omega)); have ox_b := ox_b.below (hb14.mono (by omega)); have ogv := ogv.below (hb14.mono (by omega)); have b14 := b13.trans (hb14.mono (by omega)); have i_a := h_a.below b14; have i_b := h_b.below b14; clear hb14; have a_bq := a_b; obtain ⟨a_b_0, a_b_1, a_b_2, a_b_3, a_b_4⟩ := a_bq; have a_blt : w.heap.size < w14.heap.size := (by omega); have wbq := wb; obtain ⟨wb_0, wb_1, wb_2, wb_3⟩ := wbq; have wblt : p_vv < w14.heap.size := (by omega); have xb_bq := xb_b; obtain ⟨xb_b_0, xb_b_1, xb_b_2, xb_b_3, xb_b_4⟩ := xb_bq; have xb_blt : w6.heap.size < w14.heap.size := (by omega); have gbq := gb; obtain ⟨gb_0, gb_1, gb_2, gb_3⟩ := gbq; have gblt : w8.heap.size < w14.heap.size := (by omega)))
        clear a_b_0 a_b_1 a_b_2 a_b_3 a_b_4 a_blt
        clear wb_0 wb_1 wb_2 wb_3 wblt
        clear xb_b_0 xb_b_1 xb_b_2 xb_b_3 xb_b_4 xb_blt
        clear gb_0 gb_1 gb_2 gb_3 gblt
        have Ey_b : S.eqB x_b y_b = true := S.eqB_of_er (Qx_b.out.trans Qy_b.out.symm)
        rw [Ey_b]
        clear Ey_b oy_b
        have a_bq := a_b
        obtain ⟨a_b_0, a_b_1, a_b_2, a_b_3, a_b_4⟩ := a_bq
        have a_blt : w.heap.size < w14.heap.size := (by omega)
        have wbq := wb
        obtain ⟨wb_0, wb_1, wb_2, wb_3⟩ := wbq
        have wblt : p_vv < w14.heap.size := (by omega)
        have xb_bq := xb_b
        obtain ⟨xb_b_0, xb_b_1, xb_b_2, xb_b_3, xb_b_4⟩ := xb_bq
        have xb_blt : w6.heap.size < w14.heap.size := (by omega)
        have gbq := gb
        obtain ⟨gb_0, gb_1, gb_2, gb_3⟩ := gbq
        have gblt : w8.heap.size < w14.heap.size := (by omega)
        go_wp2_with fail
        clear a_b_0 a_b_1 a_b_2 a_b_3 a_b_4 a_blt
        clear wb_0 wb_1 wb_2 wb_3 wblt
        clear xb_b_0 xb_b_1 xb_b_2 xb_b_3 xb_b_4 xb_blt
        clear gb_0 gb_1 gb_2 gb_3 gblt
        have wl_a := Bd.wtL_le x_a
        have wb_a : Bd.bulkL x_a ≤ 1048576 := by rw [← Bd.bulkL_er, Qx_a.out, Bd.bulkL_er]; omega
        refine (markBdL_any x_aA x_ac x_a w4.heap.size w5.heap.size _ 1 (by omega) (by omega) (by omega) ox_a (by omega)).mono ?_
        rintro e w15 ⟨rfl, x_am, hc15⟩
        have z15 := hc15.size
        have hl15 : ∀ k ∈ Bd.E.lblks x_aA x_a, w4.heap.size ≤ k ∧ k < w5.heap.size := fun k hk => ⟨ox_a.lo_ _ hk, ox_a.inn.blk_lt _ hk⟩
        have a_b := a_b.chg hc15 (by omega) (fun hm => by have := hl15 _ hm; omega)
        have wb := wb.chg hc15 (by omega) (fun hm => by have := hl15 _ hm; omega)
        have xb_b := xb_b.chg hc15 (by omega) (fun hm => by have := hl15 _ hm; omega)
        have gb := gb.chg hc15 (by omega) (fun hm => by have := hl15 _ hm; omega)
        have ovv := ovv.keepB (w' := w15) (fun k hk => hc15.block k (by have := ovv.inn.blk_lt _ hk; omega) (fun hm => by have := hl15 _ hm; have := ovv.inn.blk_lt _ hk; have := ovv.lo_ _ hk; omega))
        have ox_b := ox_b.keepB (w' := w15) (fun k hk => hc15.block k (by have := ox_b.inn.blk_lt _ hk; omega) (fun hm => by have := hl15 _ hm; have := ox_b.inn.blk_lt _ hk; have := ox_b.lo_ _ hk; omega))
        have ogv := ogv.keepB (w' := w15) (fun k hk => hc15.block k (by have := ogv.inn.blk_lt _ hk; omega) (fun hm => by have := hl15 _ hm; have := ogv.inn.blk_lt _ hk; have := ogv.lo_ _ hk; omega))
        have b15 : Below w.heap.size w w15 := b14.trans (hc15.below (fun k hk => by have := hl15 _ hk; omega) (by omega))
        have i_a := h_a.below b15
        have i_b := h_b.below b15
        have ox_a := x_am
        clear hc15 hl15 x_am
        have n2_a : ¬ (1 + ((Bd.wtL x_a : Nat) : Int) < 0) := by omega
        clear ox_a
        have a_bq := a_b
        obtain ⟨a_b_0, a_b_1, a_b_2, a_b_3, a_b_4⟩ := a_bq
        have a_blt : w.heap.size < w15.heap.size := (by omega)
        have wbq := wb
        obtain ⟨wb_0, wb_1, wb_2, wb_3⟩ := wbq
        have wblt : p_vv < w15.heap.size := (by omega)
        have xb_bq := xb_b
        obtain ⟨xb_b_0, xb_b_1, xb_b_2, xb_b_3, xb_b_4⟩ := xb_bq
        have xb_blt : w6.heap.size < w15.heap.size := (by omega)
        have gbq := gb
        obtain ⟨gb_0, gb_1, gb_2, gb_3⟩ := gbq
        have gblt : w8.heap.size < w15.heap.size := (by omega)
        go_wp2_with fail
        clear a_b_0 a_b_1 a_b_2 a_b_3 a_b_4 a_blt
        clear wb_0 wb_1 wb_2 wb_3 wblt
        clear xb_b_0 xb_b_1 xb_b_2 xb_b_3 xb_b_4 xb_blt
        clear gb_0 gb_1 gb_2 gb_3 gblt
        refine (markSyn_any x_b w5.heap.size w6.heap.size _ (1 + ((Bd.wtL x_a : Nat) : Int)) (by omega) (by omega) (by omega) (by omega) (by omega) ox_b (by omega)).mono ?_
        rintro e w16 ⟨rfl, x_bm, hc16⟩
        have z16 := hc16.size
        have hl16 : ∀ k ∈ S.blks x_b, w5.heap.size ≤ k ∧ k < w6.heap.size := fun k hk => ⟨ox_b.lo_ _ hk, ox_b.inn.blk_lt _ hk⟩
        have a_b := a_b.chg hc16 (by omega) (fun hm => by have := hl16 _ hm; omega)
        have wb := wb.chg hc16 (by omega) (fun hm => by have := hl16 _ hm; omega)
        have xb_b := xb_b.chg hc16 (by omega) (fun hm => by have := hl16 _ hm; omega)
        have gb := gb.chg hc16 (by omega) (fun hm => by have := hl16 _ hm; omega)
        have ovv := ovv.keepB (w' := w16) (fun k hk => hc16.block k (by have := ovv.inn.blk_lt _ hk; omega) (fun hm => by have := hl16 _ hm; have := ovv.inn.blk_lt _ hk; have := ovv.lo_ _ hk; omega))
        have ogv := ogv.keepB (w' := w16) (fun k hk => hc16.block k (by have := ogv.inn.blk_lt _ hk; omega) (fun hm => by have := hl16 _ hm; have := ogv.inn.blk_lt _ hk; have := ogv.lo_ _ hk; omega))
        have b16 : Below w.heap.size w w16 := b15.trans (hc16.below (fun k hk => by have := hl16 _ hk; omega) (by omega))
        have i_a := h_a.below b16
        have i_b := h_b.below b16
        have ox_b := x_bm
        clear hc16 hl16 x_bm
        have n2_b : ¬ (1 + ((Bd.wtL x_a : Nat) : Int) + (x_b.s.length : Int) + (S.wtL x_b.l : Int) < 0) := by omega
        clear ox_b
        have a_bq := a_b
        obtain ⟨a_b_0, a_b_1, a_b_2, a_b_3, a_b_4⟩ := a_bq
        have a_blt : w.heap.size < w16.heap.size := (by omega)
        have wbq := wb
        obtain ⟨wb_0, wb_1, wb_2, wb_3⟩ := wbq
        have wblt : p_vv < w16.heap.size := (by omega)
        have xb_bq := xb_b
        obtain ⟨xb_b_0, xb_b_1, xb_b_2, xb_b_3, xb_b_4⟩ := xb_bq
        have xb_blt : w6.heap.size < w16.heap.size := (by omega)
        have gbq := gb
        obtain ⟨gb_0, gb_1, gb_2, gb_3⟩ := gbq
        have gblt : w8.heap.size < w16.heap.size := (by omega)
        go_wp2_with fail
        clear a_b_0 a_b_1 a_b_2 a_b_3 a_b_4 a_blt
        clear wb_0 wb_1 wb_2 wb_3 wblt
        clear xb_b_0 xb_b_1 xb_b_2 xb_b_3 xb_b_4 xb_blt
        clear gb_0 gb_1 gb_2 gb_3 gblt
        refine (eqBd_any gv vv w16.heap.size _ (Qgv.out.trans Qvv.out.symm) (ogv.inn.more (by omega)) (ovv.inn.more (by omega)) (by omega)).mono ?_
        rintro e w17 ⟨rfl, hb17⟩
        have z17 := hb17.size
        have a_b := a_b.below hb17 (by omega)
        have wb := wb.below hb17 (by omega)
        have xb_b := xb_b.below hb17 (by omega)
        have gb := gb.below hb17 (by omega)
        have ovv := ovv.below (hb17.mono (by omega))
        have ogv := ogv.below (hb17.mono (by omega))
        have b17 := b16.trans (hb17.mono (by omega))
        have i_a := h_a.below b17
        have i_b := h_b.below b17
        clear hb17
        have a_bq := a_b
        obtain ⟨a_b_0, a_b_1, a_b_2, a_b_3, a_b_4⟩ := a_bq
        have a_blt : w.heap.size < w17.heap.size := (by omega)
        have wbq := wb
        obtain ⟨wb_0, wb_1, wb_2, wb_3⟩ := wbq
        have wblt : p_vv < w17.heap.size := (by omega)
        have xb_bq := xb_b
        obtain ⟨xb_b_0, xb_b_1, xb_b_2, xb_b_3, xb_b_4⟩ := xb_bq
        have xb_blt : w6.heap.size < w17.heap.size := (by omega)
        have gbq := gb
        obtain ⟨gb_0, gb_1, gb_2, gb_3⟩ := gbq
        have gblt : w8.heap.size < w17.heap.size := (by omega)
        go_wp2_with fail
        clear a_b_0 a_b_1 a_b_2 a_b_3 a_b_4 a_blt
        clear wb_0 wb_1 wb_2 wb_3 wblt
        clear xb_b_0 xb_b_1 xb_b_2 xb_b_3 xb_b_4 xb_blt
        clear gb_0 gb_1 gb_2 gb_3 gblt
        refine (markBd_any gv w7.heap.size w8.heap.size _ 1 (by omega) (by omega) (by omega) ogv (by omega)).mono ?_
        rintro e w18 ⟨rfl, gvm, hc18⟩
        have z18 := hc18.size
        have hl18 : ∀ k ∈ Bd.E.blks gv, w7.heap.size ≤ k ∧ k < w8.heap.size := fun k hk => ⟨ogv.lo_ _ hk, ogv.inn.blk_lt _ hk⟩
        have a_b := a_b.chg hc18 (by omega) (fun hm => by have := hl18 _ hm; omega)
        have wb := wb.chg hc18 (by omega) (fun hm => by have := hl18 _ hm; omega)
        have xb_b := xb_b.chg hc18 (by omega) (fun hm => by have := hl18 _ hm; omega)
        have gb := gb.chg hc18 (by omega) (fun hm => by have := hl18 _ hm; omega)
        have ovv := ovv.keepB (w' := w18) (fun k hk => hc18.block k (by have := ovv.inn.blk_lt _ hk; omega) (fun hm => by have := hl18 _ hm; have := ovv.inn.blk_lt _ hk; have := ovv.lo_ _ hk; omega))
        have b18 : Below w.heap.size w w18 := b17.trans (hc18.below (fun k hk => by have := hl18 _ hk; omega) (by omega))
        have i_a := h_a.below b18
        have i_b := h_b.below b18
        have ogv := gvm
        clear hc18 hl18 gvm
        have a_bq := a_b
        obtain ⟨a_b_0, a_b_1, a_b_2, a_b_3, a_b_4⟩ := a_bq
        have a_blt : w.heap.size < w18.heap.size := (by omega)
        have wbq := wb
        obtain ⟨wb_0, wb_1, wb_2, wb_3⟩ := wbq
        have wblt : p_vv < w18.heap.size := (by omega)
        have xb_bq := xb_b
        obtain ⟨xb_b_0, xb_b_1, xb_b_2, xb_b_3, xb_b_4⟩ := xb_bq
        have xb_blt : w6.heap.size < w18.heap.size := (by omega)
        have gbq := gb
        obtain ⟨gb_0, gb_1, gb_2, gb_3⟩ := gbq
        have gblt : w8.heap.size < w18.heap.size := (by omega)
        go_wp2_with fail
        clear a_b_0 a_b_1 a_b_2 a_b_3 a_b_4 a_blt
        clear wb_0 wb_1 wb_2 wb_3 wblt
        clear xb_b_0 xb_b_1 xb_b_2 xb_b_3 xb_b_4 xb_blt
        clear gb_0 gb_1 gb_2 gb_3 gblt
        refine (heldBd_any gv w7.heap.size w8.heap.size _ 1 (by omega) (by omega) (by omega) ogv (by omega)).mono ?_
        rintro e w19 ⟨rfl, hb19⟩
        have z19 := hb19.size
        have a_b := a_b.below hb19 (by omega)
        have wb := wb.below hb19 (by omega)
        have xb_b := xb_b.below hb19 (by omega)
        have gb := gb.below hb19 (by omega)
        have ovv := ovv.below (hb19.mono (by omega))
        have ogv := ogv.below (hb19.mono (by omega))
        have b19 := b18.trans (hb19.mono (by omega))
        have i_a := h_a.below b19
        have i_b := h_b.below b19
        clear hb19
        have n3 : ¬ (1 + (gv.s.length : Int) < 0) := by omega
        have a_bq := a_b
        obtain ⟨a_b_0, a_b_1, a_b_2, a_b_3, a_b_4⟩ := a_bq
        have a_blt : w.heap.size < w19.heap.size := (by omega)
        have wbq := wb
        obtain ⟨wb_0, wb_1, wb_2, wb_3⟩ := wbq
        have wblt : p_vv < w19.heap.size := (by omega)
        have xb_bq := xb_b
        obtain ⟨xb_b_0, xb_b_1, xb_b_2, xb_b_3, xb_b_4⟩ := xb_bq
        have xb_blt : w6.heap.size < w19.heap.size := (by omega)
        have gbq := gb
        obtain ⟨gb_0, gb_1, gb_2, gb_3⟩ := gbq
        have gblt : w8.heap.size < w19.heap.size := (by omega)
        go_upto_region 31 with fail
        go_cut [15, 16] (fun s6 s7 wx => s7 = .int .i64 X ∧ Bd.Meets w19 Y s6 wx)
        case first =>
          have tok5 : True := trivial
          have tok6 : True := trivial
          have tok7 : True := trivial
          have r19 : Below w19.heap.size w19 w19 := Below.refl _ _
          go_region_held3 (fun w' => w'.cell? ⟨w.heap.size, 0, none⟩ = some (.int .i64 b.k) ∧ w'.cell? ⟨w.heap.size, 1, none⟩ = some (.int .i64 b.n) ∧ w'.cell? ⟨w.heap.size, 2, none⟩ = some (.string b.t) ∧ w'.cell? ⟨w.heap.size, 3, none⟩ = some (.slice b.sa b.s.length b.sc) ∧ w'.cell? ⟨w.heap.size, 4, none⟩ = some (.slice b.A b.l.length b.c)) (go_keep)
            (first
              | (go_simp; go_at_call 23; have _t := tok5; refine gen_world ?_; intro Wc hWc; have hbc : Below w19.heap.size w19 Wc := (by first | (rw [hWc]; exact Below.refl _ _) | (rw [hWc]; exact (Below.refl _ _).drew) | (rw [hWc]; exact (Below.refl _ _).alloc (Nat.le_refl _) _) | (rw [hWc]; exact (Below.refl _ _).drew.alloc (Nat.le_refl _) _)); have zc : w19.heap.size ≤ Wc.heap.size := hbc.size; (first | (have KZ := KZ.below hbc KZ.lt; have kzl := KZ.lt) | (have KZ : D.Blk Wc w19.heap.size 43 #[.string ⟨#[]⟩, .slice none 0 0, .int .i64 0, .int .i64 0] := (by rw [hWc]; exact D.Blk.new _ _ _); have kz0 : w19.heap.size ≤ w19.heap.size := (by omega); have kzl := KZ.lt; have kzn0 : w19.heap.size ≠ w.heap.size := (by omega); have kzm0 : w.heap.size ≠ w19.heap.size := (by omega)) | skip); clear hWc; have ovv := ovv.below (hbc.mono (by omega)); have ogv := ogv.below (hbc.mono (by omega)); have bc := b19.trans (hbc.mono (by omega)); have i_a := h_a.below bc; have i_b := h_b.below bc; have hcon := toBdL_any A_a c_a a w.heap.size Wc hs_a i_a (by omega); (first | (with_reducible refine hcon.mono ?_) | (simp only [Bd.val, S.val] at hcon; with_reducible refine hcon.mono ?_)); clear hcon; rintro e w20 ⟨d4_aA, d4_ac, d4_a, rfl, hed4_a, od4_a, hq20⟩; (first | (have KZ := KZ.below hq20 KZ.lt) | skip); have hb20 : Below w19.heap.size w19 w20 := hbc.trans (hq20.mono zc); have zq20 : Wc.heap.size ≤ w20.heap.size := hq20.size; have z20 : w19.heap.size ≤ w20.heap.size := hb20.size; have r20 : Below w19.heap.size w19 w20 := r19.trans (hb20.mono (by omega)); clear tok5 hbc bc; have ovv := ovv.below (hq20.mono (by omega)); have ogv := ogv.below (hq20.mono (by omega)); have Qd4_a := Lib.hid hed4_a; have sd4_a : Bd.bulkL d4_a ≤ 2000000 := (by rw [← Bd.bulkL_er, Qd4_a.out, Bd.bulkL_er]; exact hs_a); clear hed4_a; clear a_b_0 a_b_1 a_b_2 a_b_3 a_b_4 a_blt; clear wb_0 wb_1 wb_2 wb_3 wblt; clear xb_b_0 xb_b_1 xb_b_2 xb_b_3 xb_b_4 xb_blt; clear gb_0 gb_1 gb_2 gb_3 gblt; have a_b := a_b.below hb20 (by omega); have wb := wb.below hb20 (by omega); have xb_b := xb_b.below hb20 (by omega); have gb := gb.below hb20 (by omega); have b20 := b19.trans (hb20.mono (by omega)); have i_a := h_a.below b20; have i_b := h_b.below b20; clear hb20; clear hq20; have a_bq := a_b; obtain ⟨a_b_0, a_b_1, a_b_2, a_b_3, a_b_4⟩ := a_bq; have a_blt : w.heap.size < w20.heap.size := (by omega); have wbq := wb; obtain ⟨wb_0, wb_1, wb_2, wb_3⟩ := wbq; have wblt : p_vv < w20.heap.size := (by omega); have xb_bq := xb_b; obtain ⟨xb_b_0, xb_b_1, xb_b_2, xb_b_3, xb_b_4⟩ := xb_bq; have xb_blt : w6.heap.size < w20.heap.size := (by omega); have gbq := gb; obtain ⟨gb_0, gb_1, gb_2, gb_3⟩ := gbq; have gblt : w8.heap.size < w20.heap.size := (by omega))
              | (go_simp; go_at_call 33; have _t := tok6; refine gen_world ?_; intro Wc hWc; have hbc : Below w20.heap.size w20 Wc := (by first | (rw [hWc]; exact Below.refl _ _) | (rw [hWc]; exact (Below.refl _ _).drew) | (rw [hWc]; exact (Below.refl _ _).alloc (Nat.le_refl _) _) | (rw [hWc]; exact (Below.refl _ _).drew.alloc (Nat.le_refl _) _)); have zc : w20.heap.size ≤ Wc.heap.size := hbc.size; (first | (have KZ := KZ.below hbc KZ.lt; have kzl := KZ.lt) | (have KZ : D.Blk Wc w20.heap.size 43 #[.string ⟨#[]⟩, .slice none 0 0, .int .i64 0, .int .i64 0] := (by rw [hWc]; exact D.Blk.new _ _ _); have kz0 : w19.heap.size ≤ w20.heap.size := (by omega); have kzl := KZ.lt; have kzn0 : w20.heap.size ≠ w.heap.size := (by omega); have kzm0 : w.heap.size ≠ w20.heap.size := (by omega)) | skip); clear hWc; have ovv := ovv.below (hbc.mono (by omega)); have ogv := ogv.below (hbc.mono (by omega)); have od4_a := od4_a.below (hbc.mono (by omega)); have bc := b20.trans (hbc.mono (by omega)); have i_a := h_a.below bc; have i_b := h_b.below bc; have hcon := sto_any 2000000 b w.heap.size Wc hb_b hs_b (by omega) i_b (by omega); (first | (with_reducible refine hcon.mono ?_) | (simp only [Bd.val, S.val] at hcon; with_reducible refine hcon.mono ?_)); clear hcon; rintro e w21 ⟨d4_b, rfl, hed4_b, od4_b, hq21⟩; (first | (have KZ := KZ.below hq21 KZ.lt) | skip); have hb21 : Below w20.heap.size w20 w21 := hbc.trans (hq21.mono zc); have zq21 : Wc.heap.size ≤ w21.heap.size := hq21.size; have z21 : w20.heap.size ≤ w21.heap.size := hb21.size; have r21 : Below w19.heap.size w19 w21 := r20.trans (hb21.mono (by omega)); clear tok6 hbc bc; have ovv := ovv.below (hq21.mono (by omega)); have ogv := ogv.below (hq21.mono (by omega)); have od4_a := od4_a.below (hq21.mono (by omega)); have Qd4_b := Lib.hid hed4_b; obtain ⟨sd4_b, kd4_b, td4_b⟩ := S.bounds_of Qd4_b.out (by rw [S.size_er]; omega) (by rw [S.bulk_er]; omega); clear hed4_b; clear a_b_0 a_b_1 a_b_2 a_b_3 a_b_4 a_blt; clear wb_0 wb_1 wb_2 wb_3 wblt; clear xb_b_0 xb_b_1 xb_b_2 xb_b_3 xb_b_4 xb_blt; clear gb_0 gb_1 gb_2 gb_3 gblt; have a_b := a_b.below hb21 (by omega); have wb := wb.below hb21 (by omega); have xb_b := xb_b.below hb21 (by omega); have gb := gb.below hb21 (by omega); have b21 := b20.trans (hb21.mono (by omega)); have i_a := h_a.below b21; have i_b := h_b.below b21; clear hb21; clear hq21; have a_bq := a_b; obtain ⟨a_b_0, a_b_1, a_b_2, a_b_3, a_b_4⟩ := a_bq; have a_blt : w.heap.size < w21.heap.size := (by omega); have wbq := wb; obtain ⟨wb_0, wb_1, wb_2, wb_3⟩ := wbq; have wblt : p_vv < w21.heap.size := (by omega); have xb_bq := xb_b; obtain ⟨xb_b_0, xb_b_1, xb_b_2, xb_b_3, xb_b_4⟩ := xb_bq; have xb_blt : w6.heap.size < w21.heap.size := (by omega); have gbq := gb; obtain ⟨gb_0, gb_1, gb_2, gb_3⟩ := gbq; have gblt : w8.heap.size < w21.heap.size := (by omega))
              | (go_simp; go_at_call 38; have _t := tok7; refine gen_world ?_; intro Wc hWc; have hbc : Below w21.heap.size w21 Wc := (by first | (rw [hWc]; exact Below.refl _ _) | (rw [hWc]; exact (Below.refl _ _).drew) | (rw [hWc]; exact (Below.refl _ _).alloc (Nat.le_refl _) _) | (rw [hWc]; exact (Below.refl _ _).drew.alloc (Nat.le_refl _) _)); have zc : w21.heap.size ≤ Wc.heap.size := hbc.size; (first | (have KZ := KZ.below hbc KZ.lt; have kzl := KZ.lt) | (have KZ : D.Blk Wc w21.heap.size 43 #[.string ⟨#[]⟩, .slice none 0 0, .int .i64 0, .int .i64 0] := (by rw [hWc]; exact D.Blk.new _ _ _); have kz0 : w19.heap.size ≤ w21.heap.size := (by omega); have kzl := KZ.lt; have kzn0 : w21.heap.size ≠ w.heap.size := (by omega); have kzm0 : w.heap.size ≠ w21.heap.size := (by omega)) | skip); clear hWc; have ovv := ovv.below (hbc.mono (by omega)); have ogv := ogv.below (hbc.mono (by omega)); have od4_a := od4_a.below (hbc.mono (by omega)); have od4_b := od4_b.below (hbc.mono (by omega)); have bc := b21.trans (hbc.mono (by omega)); have i_a := h_a.below bc; have i_b := h_b.below bc; have hcon := implResT_c d4_aA d4_ac d4_a d4_b Wc.heap.size Wc Qd4_a.out Qd4_b.out HX.out HY.out hs_a kd4_b sd4_b (od4_a.inn.more (by omega)) (od4_b.inn.more (by omega)) (by omega); (first | (with_reducible refine hcon.mono ?_) | (simp only [Bd.val, S.val] at hcon; with_reducible refine hcon.mono ?_)); clear hcon; rintro e w22 ⟨hv, rfl, hehv, ohv, hq22⟩; (first | (have KZ := KZ.below hq22 KZ.lt) | skip); have hb22 : Below w21.heap.size w21 w22 := hbc.trans (hq22.mono zc); have zq22 : Wc.heap.size ≤ w22.heap.size := hq22.size; have z22 : w21.heap.size ≤ w22.heap.size := hb22.size; have r22 : Below w19.heap.size w19 w22 := r21.trans (hb22.mono (by omega)); clear tok7 hbc bc; have ovv := ovv.below (hq22.mono (by omega)); have ogv := ogv.below (hq22.mono (by omega)); have od4_a := od4_a.below (hq22.mono (by omega)); have od4_b := od4_b.below (hq22.mono (by omega)); have Qhv := Lib.hid hehv; have shv : hv.s.length ≤ 2000000 := hYs hv Qhv.out; clear hehv; clear a_b_0 a_b_1 a_b_2 a_b_3 a_b_4 a_blt; clear wb_0 wb_1 wb_2 wb_3 wblt; clear xb_b_0 xb_b_1 xb_b_2 xb_b_3 xb_b_4 xb_blt; clear gb_0 gb_1 gb_2 gb_3 gblt; have a_b := a_b.below hb22 (by omega); have wb := wb.below hb22 (by omega); have xb_b := xb_b.below hb22 (by omega); have gb := gb.below hb22 (by omega); have b22 := b21.trans (hb22.mono (by omega)); have i_a := h_a.below b22; have i_b := h_b.below b22; clear hb22; simp only [Bd.val]; clear hq22; (first | (have d0 : World.cell? _ ⟨_, 0, none⟩ = some (.string ⟨#[]⟩) := KZ.cell 0; have d1 : World.cell? _ ⟨_, 1, none⟩ = some (.slice none 0 0) := KZ.cell 1; have d2 : World.cell? _ ⟨_, 2, none⟩ = some (.int .i64 0) := KZ.cell 2; have d3 : World.cell? _ ⟨_, 3, none⟩ = some (.int .i64 0) := KZ.cell 3; have f0 := KZ.frozen 0; have f1 := KZ.frozen 1; have f2 := KZ.frozen 2; have f3 := KZ.frozen 3; have kzlt := KZ.lt) | skip); have a_bq := a_b; obtain ⟨a_b_0, a_b_1, a_b_2, a_b_3, a_b_4⟩ := a_bq; have a_blt : w.heap.size < w22.heap.size := (by omega); have wbq := wb; obtain ⟨wb_0, wb_1, wb_2, wb_3⟩ := wbq; have wblt : p_vv < w22.heap.size := (by omega); have xb_bq := xb_b; obtain ⟨xb_b_0, xb_b_1, xb_b_2, xb_b_3, xb_b_4⟩ := xb_bq; have xb_blt : w6.heap.size < w22.heap.size := (by omega); have gbq := gb; obtain ⟨gb_0, gb_1, gb_2, gb_3⟩ := gbq; have gblt : w8.heap.size < w22.heap.size := (by omega))
              | fail)
          all_goals (go_wp2_with fail; go_meet; refine ⟨rfl, ?_⟩; first
            | exact Bd.Meets.new r22 Qhv ohv (by omega) (by omega)
            | exact Bd.Meets.put (d := Bd.zeroB) r22 Qhv ohv (by omega) (by omega) (by omega) KZ)
        case rest =>
          clear a_b_0 a_b_1 a_b_2 a_b_3 a_b_4 a_blt
          clear wb_0 wb_1 wb_2 wb_3 wblt
          clear xb_b_0 xb_b_1 xb_b_2 xb_b_3 xb_b_4 xb_blt
          clear gb_0 gb_1 gb_2 gb_3 gblt
          obtain ⟨w20, rfl⟩ : ∃ W, W = wc := ⟨_, rfl⟩
          obtain ⟨rfl, p_hv, hv, rfl, hbx, Qhv, ohv, plhv, phhv, hb20⟩ := hcut
          have shv : hv.s.length ≤ 2000000 := hYs hv Qhv.out
          have z20 : w19.heap.size ≤ w20.heap.size := hb20.size
          have a_b := a_b.below hb20 (by omega)
          have wb := wb.below hb20 (by omega)
          have xb_b := xb_b.below hb20 (by omega)
          have gb := gb.below hb20 (by omega)
          have ovv := ovv.below (hb20.mono (by omega))
          have ogv := ogv.below (hb20.mono (by omega))
          have b20 := b19.trans (hb20.mono (by omega))
          have i_a := h_a.below b20
          have i_b := h_b.below b20
          clear hb20
          have a_bq := a_b
          obtain ⟨a_b_0, a_b_1, a_b_2, a_b_3, a_b_4⟩ := a_bq
          have a_blt : w.heap.size < w20.heap.size := (by omega)
          have wbq := wb
          obtain ⟨wb_0, wb_1, wb_2, wb_3⟩ := wbq
          have wblt : p_vv < w20.heap.size := (by omega)
          have xb_bq := xb_b
          obtain ⟨xb_b_0, xb_b_1, xb_b_2, xb_b_3, xb_b_4⟩ := xb_bq
          have xb_blt : w6.heap.size < w20.heap.size := (by omega)
          have gbq := gb
          obtain ⟨gb_0, gb_1, gb_2, gb_3⟩ := gbq
          have gblt : w8.heap.size < w20.heap.size := (by omega)
          have hbxq := hbx
          obtain ⟨hbx_0, hbx_1, hbx_2, hbx_3⟩ := hbxq
          have hbxlt : p_hv < w20.heap.size := (by omega)
          go_wp2_with fail
          clear a_b_0 a_b_1 a_b_2 a_b_3 a_b_4 a_blt
          clear wb_0 wb_1 wb_2 wb_3 wblt
          clear xb_b_0 xb_b_1 xb_b_2 xb_b_3 xb_b_4 xb_blt
          clear gb_0 gb_1 gb_2 gb_3 gblt
          clear hbx_0 hbx_1 hbx_2 hbx_3 hbxlt
          refine (eqBd_any hv vv w20.heap.size _ (Qhv.out.trans Qvv.out.symm) (ohv.inn.more (by omega)) (ovv.inn.more (by omega)) (by omega)).mono ?_
          rintro e w21 ⟨rfl, hb21⟩
          have z21 := hb21.size
          have a_b := a_b.below hb21 (by omega)
          have wb := wb.below hb21 (by omega)
          have xb_b := xb_b.below hb21 (by omega)
          have gb := gb.below hb21 (by omega)
          have hbx := hbx.below hb21 (by omega)
          have ovv := ovv.below (hb21.mono (by omega))
          have ogv := ogv.below (hb21.mono (by omega))
          have ohv := ohv.below (hb21.mono (by omega))
          have b21 := b20.trans (hb21.mono (by omega))
          have i_a := h_a.below b21
          have i_b := h_b.below b21
          clear hb21
          have a_bq := a_b
          obtain ⟨a_b_0, a_b_1, a_b_2, a_b_3, a_b_4⟩ := a_bq
          have a_blt : w.heap.size < w21.heap.size := (by omega)
          have wbq := wb
          obtain ⟨wb_0, wb_1, wb_2, wb_3⟩ := wbq
          have wblt : p_vv < w21.heap.size := (by omega)
          have xb_bq := xb_b
          obtain ⟨xb_b_0, xb_b_1, xb_b_2, xb_b_3, xb_b_4⟩ := xb_bq
          have xb_blt : w6.heap.size < w21.heap.size := (by omega)
          have gbq := gb
          obtain ⟨gb_0, gb_1, gb_2, gb_3⟩ := gbq
          have gblt : w8.heap.size < w21.heap.size := (by omega)
          have hbxq := hbx
          obtain ⟨hbx_0, hbx_1, hbx_2, hbx_3⟩ := hbxq
          have hbxlt : p_hv < w21.heap.size := (by omega)
          go_wp2_with fail
          clear a_b_0 a_b_1 a_b_2 a_b_3 a_b_4 a_blt
          clear wb_0 wb_1 wb_2 wb_3 wblt
          clear xb_b_0 xb_b_1 xb_b_2 xb_b_3 xb_b_4 xb_blt
          clear gb_0 gb_1 gb_2 gb_3 gblt
          clear hbx_0 hbx_1 hbx_2 hbx_3 hbxlt
          refine (heldBd_any gv w7.heap.size w8.heap.size _ 1 (by omega) (by omega) (by omega) ogv (by omega)).mono ?_
          rintro e w22 ⟨rfl, hb22⟩
          have z22 := hb22.size
          have a_b := a_b.below hb22 (by omega)
          have wb := wb.below hb22 (by omega)
          have xb_b := xb_b.below hb22 (by omega)
          have gb := gb.below hb22 (by omega)
          have hbx := hbx.below hb22 (by omega)
          have ovv := ovv.below (hb22.mono (by omega))
          have ogv := ogv.below (hb22.mono (by omega))
          have ohv := ohv.below (hb22.mono (by omega))
          have b22 := b21.trans (hb22.mono (by omega))
          have i_a := h_a.below b22
          have i_b := h_b.below b22
          clear hb22
          have a_bq := a_b
          obtain ⟨a_b_0, a_b_1, a_b_2, a_b_3, a_b_4⟩ := a_bq
          have a_blt : w.heap.size < w22.heap.size := (by omega)
          have wbq := wb
          obtain ⟨wb_0, wb_1, wb_2, wb_3⟩ := wbq
          have wblt : p_vv < w22.heap.size := (by omega)
          have xb_bq := xb_b
          obtain ⟨xb_b_0, xb_b_1, xb_b_2, xb_b_3, xb_b_4⟩ := xb_bq
          have xb_blt : w6.heap.size < w22.heap.size := (by omega)
          have gbq := gb
          obtain ⟨gb_0, gb_1, gb_2, gb_3⟩ := gbq
          have gblt : w8.heap.size < w22.heap.size := (by omega)
          have hbxq := hbx
          obtain ⟨hbx_0, hbx_1, hbx_2, hbx_3⟩ := hbxq
          have hbxlt : p_hv < w22.heap.size := (by omega)
          go_wp2_with fail
          clear a_b_0 a_b_1 a_b_2 a_b_3 a_b_4 a_blt
          clear wb_0 wb_1 wb_2 wb_3 wblt
          clear xb_b_0 xb_b_1 xb_b_2 xb_b_3 xb_b_4 xb_blt
          clear gb_0 gb_1 gb_2 gb_3 gblt
          clear hbx_0 hbx_1 hbx_2 hbx_3 hbxlt
          go_ret
          exact ⟨rfl, b22⟩
    · have b0 : Below w.heap.size w w := Below.refl _ _
      have i_a := h_a
      have i_b := h_b
      go_enter Try.func6, Try.ntmps6
      go_wp2_with fail
      obtain ⟨w1, hw1⟩ : ∃ W, W = w.alloc (.cells #[.int .i64 b.k, .int .i64 b.n, .string b.t, .slice b.sa b.s.length b.sc, .slice b.A b.l.length b.c] 52) := ⟨_, rfl⟩
      rw [← hw1]
      have hb1 : Below w.heap.size w w1 := by rw [hw1]; exact (Below.refl _ _).alloc (Nat.le_refl _) _
      have z1 : w.heap.size + 1 ≤ w1.heap.size := by rw [hw1]; simp
      have y1 : w1.heap.size ≤ w.heap.size + 1 := by rw [hw1]; simp
      have a_b : S.Box w1 w.heap.size b := by rw [hw1]; exact S.Box.new _ _ _
      clear hw1
      have b1 := b0.trans (hb1.mono (by omega))
      have i_a := h_a.below b1
      have i_b := h_b.below b1
      clear hb1
      refine (szBdL_any A_a c_a a w.heap.size _ 1048576 h_a.cap (by omega) (by omega) i_a (by omega)).mono ?_
      rintro e w2 ⟨rfl, hb2⟩
      have z2 := hb2.size
      have a_b := a_b.below hb2 (by omega)
      have b2 := b1.trans (hb2.mono (by omega))
      have i_a := h_a.below b2
      have i_b := h_b.below b2
      clear hb2
      rw [szR_yes (by omega)]
      have n1_a : ¬ (1048576 - (Bd.bulkL a : Int) < 0) := by omega
      have a_bq := a_b
      obtain ⟨a_b_0, a_b_1, a_b_2, a_b_3, a_b_4⟩ := a_bq
      have a_blt : w.heap.size < w2.heap.size := (by omega)
      go_wp2_with fail
      clear a_b_0 a_b_1 a_b_2 a_b_3 a_b_4 a_blt
      refine (ssz_any (b.size + 1) b w.heap.size _ (1048576 - (Bd.bulkL a : Int)) (by omega) (by omega) (by omega) i_b (by omega)).mono ?_
      rintro e w3 ⟨rfl, hb3⟩
      have z3 := hb3.size
      have a_b := a_b.below hb3 (by omega)
      have b3 := b2.trans (hb3.mono (by omega))
      have i_a := h_a.below b3
      have i_b := h_b.below b3
      clear hb3
      rw [szR_no (by omega)]
      have a_bq := a_b
      obtain ⟨a_b_0, a_b_1, a_b_2, a_b_3, a_b_4⟩ := a_bq
      have a_blt : w.heap.size < w3.heap.size := (by omega)
      go_wp2_with fail
      clear a_b_0 a_b_1 a_b_2 a_b_3 a_b_4 a_blt
      go_ret
      exact ⟨rfl, b3⟩
  · have b0 : Below w.heap.size w w := Below.refl _ _
    have i_a := h_a
    have i_b := h_b
    go_enter Try.func6, Try.ntmps6
    go_wp2_with fail
    obtain ⟨w1, hw1⟩ : ∃ W, W = w.alloc (.cells #[.int .i64 b.k, .int .i64 b.n, .string b.t, .slice b.sa b.s.length b.sc, .slice b.A b.l.length b.c] 52) := ⟨_, rfl⟩
    rw [← hw1]
    have hb1 : Below w.heap.size w w1 := by rw [hw1]; exact (Below.refl _ _).alloc (Nat.le_refl _) _
    have z1 : w.heap.size + 1 ≤ w1.heap.size := by rw [hw1]; simp
    have y1 : w1.heap.size ≤ w.heap.size + 1 := by rw [hw1]; simp
    have a_b : S.Box w1 w.heap.size b := by rw [hw1]; exact S.Box.new _ _ _
    clear hw1
    have b1 := b0.trans (hb1.mono (by omega))
    have i_a := h_a.below b1
    have i_b := h_b.below b1
    clear hb1
    refine (szBdL_any A_a c_a a w.heap.size _ 1048576 h_a.cap (by omega) (by omega) i_a (by omega)).mono ?_
    rintro e w2 ⟨rfl, hb2⟩
    have z2 := hb2.size
    have a_b := a_b.below hb2 (by omega)
    have b2 := b1.trans (hb2.mono (by omega))
    have i_a := h_a.below b2
    have i_b := h_b.below b2
    clear hb2
    rw [szR_no (by omega)]
    have a_bq := a_b
    obtain ⟨a_b_0, a_b_1, a_b_2, a_b_3, a_b_4⟩ := a_bq
    have a_blt : w.heap.size < w2.heap.size := (by omega)
    go_wp2_with fail
    clear a_b_0 a_b_1 a_b_2 a_b_3 a_b_4 a_blt
    go_ret
    exact ⟨rfl, b2⟩
end Go.Proofs.Ytikjipkhebedfaa
