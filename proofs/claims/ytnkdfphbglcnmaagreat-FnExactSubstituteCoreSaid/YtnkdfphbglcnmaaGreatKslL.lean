/-
  The law on SubstituteCore, walked (written by gen/kosubl.py).
-/
import Derived.Test.YtnkdfphbglcnmaaGreatGKs
import Derived.Test.YtnkdfphbglcnmaaGreatGMk
import Derived.Test.YtnkdfphbglcnmaaGreatKoCopy
import Derived.Test.YtnkdfphbglcnmaaGreatKoC
import Derived.Deep.RegionHeld3
import Derived.Deep.DeepCutAuto
namespace Go.Proofs.YtnkdfphbglcnmaaGreat
open Go.RowKit
set_option maxRecDepth 100000 in
set_option maxHeartbeats 16000000 in
theorem law_ksl (a : Tr Ko) (n : Int) (b : Tr Ko) (w : World) (h_a : Ko.E.In w w.heap.size a) (h_b : Ko.E.In w w.heap.size b) (hwn : (Lit.int .i64 n).wf = true) : Calls Tryz.prog 3 #[Ko.val a, .int .i64 n, Ko.val b] w fun e w' => e = .returned (.bool true) ∧ Below w.heap.size w w' := by
  unfold Ko.val
  by_cases hz_a : (a.bulk Ko.bulk : Int) ≤ 1048576
  · have hs_a : a.size ≤ 2000000 := by have := Tr.size_le_bulk Ko.bulk a; omega
    have hk_a : a.bulk Ko.bulk ≤ 1048576 := by omega
    by_cases hz_b : (b.bulk Ko.bulk : Int) ≤ 1048576 - (a.bulk Ko.bulk : Int)
    · have hs_b : b.size ≤ 2000000 := by have := Tr.size_le_bulk Ko.bulk b; omega
      have hk_b : b.bulk Ko.bulk ≤ 1048576 := by omega
      obtain ⟨Y, hY⟩ : ∃ Y, Y = (Tr.subC n b a).er Ko.er := ⟨_, rfl⟩
      have HY := Lib.hid hY
      clear hY
      have wk_a := Tr.kwt_le a
      have wk_b := Tr.kwt_le b
      have b0 : Below w.heap.size w w := Below.refl _ _
      have i_a := h_a
      have i_b := h_b
      go_enter Tryz.func3, Tryz.ntmps3
      go_wp2_with fail
      obtain ⟨w1, hw1⟩ : ∃ W, W = w.alloc (.cells #[.int .i64 a.a.k, .int .i64 a.a.n, .slice a.a.sA a.a.s.length a.a.sC, .int .i64 a.a.d.k, .int .i64 a.a.d.n, .string a.a.d.t, .slice a.a.d.A a.a.d.l.length a.a.d.c, .slice a.A a.l.length a.c] 28) := ⟨_, rfl⟩
      rw [← hw1]
      have hb1 : Below w.heap.size w w1 := by rw [hw1]; exact (Below.refl _ _).alloc (Nat.le_refl _) _
      have z1 : w.heap.size + 1 ≤ w1.heap.size := by rw [hw1]; simp
      have y1 : w1.heap.size ≤ w.heap.size + 1 := by rw [hw1]; simp
      have a_a : Ko.Box w1 w.heap.size a := by rw [hw1]; exact Ko.Box.new _ _ _
      clear hw1
      have b1 := b0.trans (hb1.mono (by omega))
      have i_a := h_a.below b1
      have i_b := h_b.below b1
      clear hb1
      obtain ⟨w2, hw2⟩ : ∃ W, W = w1.alloc (.cells #[.int .i64 b.a.k, .int .i64 b.a.n, .slice b.a.sA b.a.s.length b.a.sC, .int .i64 b.a.d.k, .int .i64 b.a.d.n, .string b.a.d.t, .slice b.a.d.A b.a.d.l.length b.a.d.c, .slice b.A b.l.length b.c] 28) := ⟨_, rfl⟩
      rw [← hw2]
      have hb2 : Below w1.heap.size w1 w2 := by rw [hw2]; exact (Below.refl _ _).alloc (Nat.le_refl _) _
      have z2 : w1.heap.size + 1 ≤ w2.heap.size := by rw [hw2]; simp
      have y2 : w2.heap.size ≤ w1.heap.size + 1 := by rw [hw2]; simp
      have a_b : Ko.Box w2 w1.heap.size b := by rw [hw2]; exact Ko.Box.new _ _ _
      clear hw2
      have a_a := a_a.below hb2 (by omega)
      have b2 := b1.trans (hb2.mono (by omega))
      have i_a := h_a.below b2
      have i_b := h_b.below b2
      clear hb2
      have e_a_b : w1.heap.size = w.heap.size + 1 := by omega
      rw [e_a_b] at a_b
      clear e_a_b
      refine (Ko_sz_any 2000000 a w.heap.size _ 1048576 hs_a (by omega) (by omega) i_a (by omega)).mono ?_
      rintro e w3 ⟨rfl, hb3⟩
      have z3 := hb3.size
      have a_a := a_a.below hb3 (by omega)
      have a_b := a_b.below hb3 (by omega)
      have b3 := b2.trans (hb3.mono (by omega))
      have i_a := h_a.below b3
      have i_b := h_b.below b3
      clear hb3
      rw [szR_yes (by omega)]
      have n1_a : ¬ (1048576 - (a.bulk Ko.bulk : Int) < 0) := by omega
      have a_aq := a_a
      obtain ⟨a_a_0, a_a_1, a_a_2, a_a_3, a_a_4, a_a_5, a_a_6, a_a_7⟩ := a_aq
      have a_alt : w.heap.size < w3.heap.size := (by omega)
      have a_bq := a_b
      obtain ⟨a_b_0, a_b_1, a_b_2, a_b_3, a_b_4, a_b_5, a_b_6, a_b_7⟩ := a_bq
      have a_blt : w.heap.size + 1 < w3.heap.size := (by omega)
      go_wp2_with fail
      clear a_a_0 a_a_1 a_a_2 a_a_3 a_a_4 a_a_5 a_a_6 a_a_7 a_alt
      clear a_b_0 a_b_1 a_b_2 a_b_3 a_b_4 a_b_5 a_b_6 a_b_7 a_blt
      refine (Ko_sz_any 2000000 b w.heap.size _ (1048576 - (a.bulk Ko.bulk : Int)) hs_b (by omega) (by omega) i_b (by omega)).mono ?_
      rintro e w4 ⟨rfl, hb4⟩
      have z4 := hb4.size
      have a_a := a_a.below hb4 (by omega)
      have a_b := a_b.below hb4 (by omega)
      have b4 := b3.trans (hb4.mono (by omega))
      have i_a := h_a.below b4
      have i_b := h_b.below b4
      clear hb4
      rw [szR_yes (by omega)]
      have n1_b : ¬ (1048576 - (a.bulk Ko.bulk : Int) - (b.bulk Ko.bulk : Int) < 0) := by omega
      have a_aq := a_a
      obtain ⟨a_a_0, a_a_1, a_a_2, a_a_3, a_a_4, a_a_5, a_a_6, a_a_7⟩ := a_aq
      have a_alt : w.heap.size < w4.heap.size := (by omega)
      have a_bq := a_b
      obtain ⟨a_b_0, a_b_1, a_b_2, a_b_3, a_b_4, a_b_5, a_b_6, a_b_7⟩ := a_bq
      have a_blt : w.heap.size + 1 < w4.heap.size := (by omega)
      go_upto_region 8 with fail
      go_cut [8] (fun s6 wx => Ko.Meets w4 Y s6 wx)
      case first =>
        have tok0 : True := trivial
        have tok1 : True := trivial
        have tok2 : True := trivial
        have r4 : Below w4.heap.size w4 w4 := Below.refl _ _
        go_region_held3 (fun w' => w'.cell? ⟨w.heap.size, 0, none⟩ = some (.int .i64 a.a.k) ∧ w'.cell? ⟨w.heap.size, 1, none⟩ = some (.int .i64 a.a.n) ∧ w'.cell? ⟨w.heap.size, 2, none⟩ = some (.slice a.a.sA a.a.s.length a.a.sC) ∧ w'.cell? ⟨w.heap.size, 3, none⟩ = some (.int .i64 a.a.d.k) ∧ w'.cell? ⟨w.heap.size, 4, none⟩ = some (.int .i64 a.a.d.n) ∧ w'.cell? ⟨w.heap.size, 5, none⟩ = some (.string a.a.d.t) ∧ w'.cell? ⟨w.heap.size, 6, none⟩ = some (.slice a.a.d.A a.a.d.l.length a.a.d.c) ∧ w'.cell? ⟨w.heap.size, 7, none⟩ = some (.slice a.A a.l.length a.c) ∧ w'.cell? ⟨w.heap.size + 1, 0, none⟩ = some (.int .i64 b.a.k) ∧ w'.cell? ⟨w.heap.size + 1, 1, none⟩ = some (.int .i64 b.a.n) ∧ w'.cell? ⟨w.heap.size + 1, 2, none⟩ = some (.slice b.a.sA b.a.s.length b.a.sC) ∧ w'.cell? ⟨w.heap.size + 1, 3, none⟩ = some (.int .i64 b.a.d.k) ∧ w'.cell? ⟨w.heap.size + 1, 4, none⟩ = some (.int .i64 b.a.d.n) ∧ w'.cell? ⟨w.heap.size + 1, 5, none⟩ = some (.string b.a.d.t) ∧ w'.cell? ⟨w.heap.size + 1, 6, none⟩ = some (.slice b.a.d.A b.a.d.l.length b.a.d.c) ∧ w'.cell? ⟨w.heap.size + 1, 7, none⟩ = some (.slice b.A b.l.length b.c)) (go_keep)
          (first
            | (go_simp; go_at_call 14; have _t := tok0; refine gen_worldM ?_; intro Wc hWc; have hbc : Below w4.heap.size w4 Wc := (by first | (rw [hWc]; exact Below.refl _ _) | (rw [hWc]; exact (Below.refl _ _).drew) | (rw [hWc]; exact (Below.refl _ _).alloc (Nat.le_refl _) _) | (rw [hWc]; exact (Below.refl _ _).drew.alloc (Nat.le_refl _) _)); have zc : w4.heap.size ≤ Wc.heap.size := hbc.size; (first | (have KZ := KZ.below hbc KZ.lt; have kzl := KZ.lt) | (have KZ : D.Blk Wc w4.heap.size 35 #[.int .i64 0, .int .i64 0, .slice none 0 0, .int .i64 0, .int .i64 0, .string ⟨#[]⟩, .slice none 0 0, .slice none 0 0] := (by rw [hWc]; exact D.Blk.new _ _ _); have kz0 : w4.heap.size ≤ w4.heap.size := (by omega); have kzl := KZ.lt; have kzn0 : w4.heap.size ≠ w.heap.size := (by omega); have kzm0 : w.heap.size ≠ w4.heap.size := (by omega); have kzn1 : w4.heap.size ≠ w.heap.size + 1 := (by omega); have kzm1 : w.heap.size + 1 ≠ w4.heap.size := (by omega)) | skip); clear hWc; have bc := b4.trans (hbc.mono (by omega)); have i_a := h_a.below bc; have i_b := h_b.below bc; have hcon := Ko_to_any 2000000 a w.heap.size Wc (by omega) hs_a i_a (by omega); (first | (with_reducible refine hcon.mono ?_) | (simp only [Ko.val] at hcon; with_reducible refine hcon.mono ?_)); clear hcon; rintro e w5 ⟨d1_a, rfl, hed1_a, od1_a, hq5⟩; (first | (have KZ := KZ.below hq5 KZ.lt) | skip); have hb5 : Below w4.heap.size w4 w5 := hbc.trans (hq5.mono zc); have zq5 : Wc.heap.size ≤ w5.heap.size := hq5.size; have z5 : w4.heap.size ≤ w5.heap.size := hb5.size; have r5 : Below w4.heap.size w4 w5 := r4.trans (hb5.mono (by omega)); clear tok0 hbc bc; have Qd1_a := Lib.hid hed1_a; have sd1_a : d1_a.size ≤ 2000000 := (by rw [Tr.size_of_er _ _ Qd1_a.out]; exact hs_a); have kd1_a : d1_a.bulk Ko.bulk ≤ 1048576 := (by rw [Tr.bulk_of_er (fun _ _ => Ko.bulk_of_er) _ _ Qd1_a.out]; exact hk_a); clear hed1_a; clear a_a_0 a_a_1 a_a_2 a_a_3 a_a_4 a_a_5 a_a_6 a_a_7 a_alt; clear a_b_0 a_b_1 a_b_2 a_b_3 a_b_4 a_b_5 a_b_6 a_b_7 a_blt; have a_a := a_a.below hb5 (by omega); have a_b := a_b.below hb5 (by omega); have b5 := b4.trans (hb5.mono (by omega)); have i_a := h_a.below b5; have i_b := h_b.below b5; clear hb5; clear hq5; have a_aq := a_a; obtain ⟨a_a_0, a_a_1, a_a_2, a_a_3, a_a_4, a_a_5, a_a_6, a_a_7⟩ := a_aq; have a_alt : w.heap.size < w5.heap.size := (by omega); have a_bq := a_b; obtain ⟨a_b_0, a_b_1, a_b_2, a_b_3, a_b_4, a_b_5, a_b_6, a_b_7⟩ := a_bq; have a_blt : w.heap.size + 1 < w5.heap.size := (by omega))
            | (go_simp; go_at_call 14; have _t := tok1; refine gen_worldM ?_; intro Wc hWc; have hbc : Below w5.heap.size w5 Wc := (by first | (rw [hWc]; exact Below.refl _ _) | (rw [hWc]; exact (Below.refl _ _).drew) | (rw [hWc]; exact (Below.refl _ _).alloc (Nat.le_refl _) _) | (rw [hWc]; exact (Below.refl _ _).drew.alloc (Nat.le_refl _) _)); have zc : w5.heap.size ≤ Wc.heap.size := hbc.size; (first | (have KZ := KZ.below hbc KZ.lt; have kzl := KZ.lt) | (have KZ : D.Blk Wc w5.heap.size 35 #[.int .i64 0, .int .i64 0, .slice none 0 0, .int .i64 0, .int .i64 0, .string ⟨#[]⟩, .slice none 0 0, .slice none 0 0] := (by rw [hWc]; exact D.Blk.new _ _ _); have kz0 : w4.heap.size ≤ w5.heap.size := (by omega); have kzl := KZ.lt; have kzn0 : w5.heap.size ≠ w.heap.size := (by omega); have kzm0 : w.heap.size ≠ w5.heap.size := (by omega); have kzn1 : w5.heap.size ≠ w.heap.size + 1 := (by omega); have kzm1 : w.heap.size + 1 ≠ w5.heap.size := (by omega)) | skip); clear hWc; have od1_a := od1_a.below (hbc.mono (by omega)); have bc := b5.trans (hbc.mono (by omega)); have i_a := h_a.below bc; have i_b := h_b.below bc; have hcon := Ko_to_any 2000000 b w.heap.size Wc (by omega) hs_b i_b (by omega); (first | (with_reducible refine hcon.mono ?_) | (simp only [Ko.val] at hcon; with_reducible refine hcon.mono ?_)); clear hcon; rintro e w6 ⟨d1_b, rfl, hed1_b, od1_b, hq6⟩; (first | (have KZ := KZ.below hq6 KZ.lt) | skip); have hb6 : Below w5.heap.size w5 w6 := hbc.trans (hq6.mono zc); have zq6 : Wc.heap.size ≤ w6.heap.size := hq6.size; have z6 : w5.heap.size ≤ w6.heap.size := hb6.size; have r6 : Below w4.heap.size w4 w6 := r5.trans (hb6.mono (by omega)); clear tok1 hbc bc; have od1_a := od1_a.below (hq6.mono (by omega)); have Qd1_b := Lib.hid hed1_b; have sd1_b : d1_b.size ≤ 2000000 := (by rw [Tr.size_of_er _ _ Qd1_b.out]; exact hs_b); have kd1_b : d1_b.bulk Ko.bulk ≤ 1048576 := (by rw [Tr.bulk_of_er (fun _ _ => Ko.bulk_of_er) _ _ Qd1_b.out]; exact hk_b); clear hed1_b; clear a_a_0 a_a_1 a_a_2 a_a_3 a_a_4 a_a_5 a_a_6 a_a_7 a_alt; clear a_b_0 a_b_1 a_b_2 a_b_3 a_b_4 a_b_5 a_b_6 a_b_7 a_blt; have a_a := a_a.below hb6 (by omega); have a_b := a_b.below hb6 (by omega); have b6 := b5.trans (hb6.mono (by omega)); have i_a := h_a.below b6; have i_b := h_b.below b6; clear hb6; clear hq6; have a_aq := a_a; obtain ⟨a_a_0, a_a_1, a_a_2, a_a_3, a_a_4, a_a_5, a_a_6, a_a_7⟩ := a_aq; have a_alt : w.heap.size < w6.heap.size := (by omega); have a_bq := a_b; obtain ⟨a_b_0, a_b_1, a_b_2, a_b_3, a_b_4, a_b_5, a_b_6, a_b_7⟩ := a_bq; have a_blt : w.heap.size + 1 < w6.heap.size := (by omega))
            | (go_simp; go_at_call 13; have _t := tok2; refine gen_worldM ?_; intro Wc hWc; have hbc : Below w6.heap.size w6 Wc := (by first | (rw [hWc]; exact Below.refl _ _) | (rw [hWc]; exact (Below.refl _ _).drew) | (rw [hWc]; exact (Below.refl _ _).alloc (Nat.le_refl _) _) | (rw [hWc]; exact (Below.refl _ _).drew.alloc (Nat.le_refl _) _)); have zc : w6.heap.size ≤ Wc.heap.size := hbc.size; (first | (have KZ := KZ.below hbc KZ.lt; have kzl := KZ.lt) | (have KZ : D.Blk Wc w6.heap.size 35 #[.int .i64 0, .int .i64 0, .slice none 0 0, .int .i64 0, .int .i64 0, .string ⟨#[]⟩, .slice none 0 0, .slice none 0 0] := (by rw [hWc]; exact D.Blk.new _ _ _); have kz0 : w4.heap.size ≤ w6.heap.size := (by omega); have kzl := KZ.lt; have kzn0 : w6.heap.size ≠ w.heap.size := (by omega); have kzm0 : w.heap.size ≠ w6.heap.size := (by omega); have kzn1 : w6.heap.size ≠ w.heap.size + 1 := (by omega); have kzm1 : w.heap.size + 1 ≠ w6.heap.size := (by omega)) | skip); clear hWc; have od1_a := od1_a.below (hbc.mono (by omega)); have od1_b := od1_b.below (hbc.mono (by omega)); have bc := b6.trans (hbc.mono (by omega)); have i_a := h_a.below bc; have i_b := h_b.below bc; have hcon := specSubC_c n d1_a d1_b Wc.heap.size Wc Qd1_a.out Qd1_b.out HY.out.symm (od1_a.inn.more (by omega)) (od1_b.inn.more (by omega)) (by omega) hk_a hk_b; (first | (with_reducible refine hcon.mono ?_) | (simp only [Ko.val] at hcon; with_reducible refine hcon.mono ?_)); clear hcon; rintro e w7 ⟨vv, rfl, hevv, ovv, hq7⟩; (first | (have KZ := KZ.below hq7 KZ.lt) | skip); have hb7 : Below w6.heap.size w6 w7 := hbc.trans (hq7.mono zc); have zq7 : Wc.heap.size ≤ w7.heap.size := hq7.size; have z7 : w6.heap.size ≤ w7.heap.size := hb7.size; have r7 : Below w4.heap.size w4 w7 := r6.trans (hb7.mono (by omega)); clear tok2 hbc bc; have od1_a := od1_a.below (hq7.mono (by omega)); have od1_b := od1_b.below (hq7.mono (by omega)); have Qvv := Lib.hid hevv; have kvv : vv.bulk Ko.bulk ≤ 1300000 := (by rw [Tr.bulk_of_er (f := Ko.bulk) (fun _ _ => Ko.bulk_of_er) _ _ (Qvv.out.trans HY.out)]; exact Tr.subC_bulk hk_a); have wk_vv := Tr.kwt_le vv; clear hevv; clear a_a_0 a_a_1 a_a_2 a_a_3 a_a_4 a_a_5 a_a_6 a_a_7 a_alt; clear a_b_0 a_b_1 a_b_2 a_b_3 a_b_4 a_b_5 a_b_6 a_b_7 a_blt; have a_a := a_a.below hb7 (by omega); have a_b := a_b.below hb7 (by omega); have b7 := b6.trans (hb7.mono (by omega)); have i_a := h_a.below b7; have i_b := h_b.below b7; clear hb7; simp only [Ko.val]; clear hq7; (first | (have d0 : World.cell? _ ⟨_, 0, none⟩ = some (.int .i64 0) := KZ.cell 0; have f0 := KZ.frozen 0; have d1 : World.cell? _ ⟨_, 1, none⟩ = some (.int .i64 0) := KZ.cell 1; have f1 := KZ.frozen 1; have d2 : World.cell? _ ⟨_, 2, none⟩ = some (.slice none 0 0) := KZ.cell 2; have f2 := KZ.frozen 2; have d3 : World.cell? _ ⟨_, 3, none⟩ = some (.int .i64 0) := KZ.cell 3; have f3 := KZ.frozen 3; have d4 : World.cell? _ ⟨_, 4, none⟩ = some (.int .i64 0) := KZ.cell 4; have f4 := KZ.frozen 4; have d5 : World.cell? _ ⟨_, 5, none⟩ = some (.string ⟨#[]⟩) := KZ.cell 5; have f5 := KZ.frozen 5; have d6 : World.cell? _ ⟨_, 6, none⟩ = some (.slice none 0 0) := KZ.cell 6; have f6 := KZ.frozen 6; have d7 : World.cell? _ ⟨_, 7, none⟩ = some (.slice none 0 0) := KZ.cell 7; have f7 := KZ.frozen 7; have kzlt := KZ.lt) | skip); have a_aq := a_a; obtain ⟨a_a_0, a_a_1, a_a_2, a_a_3, a_a_4, a_a_5, a_a_6, a_a_7⟩ := a_aq; have a_alt : w.heap.size < w7.heap.size := (by omega); have a_bq := a_b; obtain ⟨a_b_0, a_b_1, a_b_2, a_b_3, a_b_4, a_b_5, a_b_6, a_b_7⟩ := a_bq; have a_blt : w.heap.size + 1 < w7.heap.size := (by omega))
            | fail)
        all_goals (go_wp2_with fail; go_meet; first
          | ((with_reducible refine Ko.Meets.new r7 Qvv ovv ?_ ?_) <;> omega)
          | ((with_reducible refine Ko.Meets.put r7 Qvv ovv ?_ ?_ ?_ KZ ?_) <;> first | omega | exact rfl))
      case rest =>
        clear a_a_0 a_a_1 a_a_2 a_a_3 a_a_4 a_a_5 a_a_6 a_a_7 a_alt
        clear a_b_0 a_b_1 a_b_2 a_b_3 a_b_4 a_b_5 a_b_6 a_b_7 a_blt
        obtain ⟨w5, rfl⟩ : ∃ W, W = wc := ⟨_, rfl⟩
        obtain ⟨p_vv, vv, rfl, wb, Qvv, ovv, plvv, phvv, hb5⟩ := hcut
        have kvv : vv.bulk Ko.bulk ≤ 1300000 := (by rw [Tr.bulk_of_er (f := Ko.bulk) (fun _ _ => Ko.bulk_of_er) _ _ (Qvv.out.trans HY.out)]; exact Tr.subC_bulk hk_a)
        have wk_vv := Tr.kwt_le vv
        have z5 : w4.heap.size ≤ w5.heap.size := hb5.size
        have a_a := a_a.below hb5 (by omega)
        have a_b := a_b.below hb5 (by omega)
        have b5 := b4.trans (hb5.mono (by omega))
        have i_a := h_a.below b5
        have i_b := h_b.below b5
        clear hb5
        have a_aq := a_a
        obtain ⟨a_a_0, a_a_1, a_a_2, a_a_3, a_a_4, a_a_5, a_a_6, a_a_7⟩ := a_aq
        have a_alt : w.heap.size < w5.heap.size := (by omega)
        have a_bq := a_b
        obtain ⟨a_b_0, a_b_1, a_b_2, a_b_3, a_b_4, a_b_5, a_b_6, a_b_7⟩ := a_bq
        have a_blt : w.heap.size + 1 < w5.heap.size := (by omega)
        have wbq := wb
        obtain ⟨wb_0, wb_1, wb_2, wb_3, wb_4, wb_5, wb_6, wb_7⟩ := wbq
        have wblt : p_vv < w5.heap.size := (by omega)
        go_wp2_with fail
        clear a_a_0 a_a_1 a_a_2 a_a_3 a_a_4 a_a_5 a_a_6 a_a_7 a_alt
        clear a_b_0 a_b_1 a_b_2 a_b_3 a_b_4 a_b_5 a_b_6 a_b_7 a_blt
        clear wb_0 wb_1 wb_2 wb_3 wb_4 wb_5 wb_6 wb_7 wblt
        refine (Ko_to_any 2000000 a w.heap.size _ (by omega) hs_a i_a (by omega)).mono ?_
        rintro e w6 ⟨x_a, rfl, hex_a, ox_a, hb6⟩
        have z6 := hb6.size
        have a_a := a_a.below hb6 (by omega)
        have a_b := a_b.below hb6 (by omega)
        have wb := wb.below hb6 (by omega)
        have ovv := ovv.below (hb6.mono (by omega))
        have b6 := b5.trans (hb6.mono (by omega))
        have i_a := h_a.below b6
        have i_b := h_b.below b6
        clear hb6
        have Qx_a := Lib.hid hex_a
        have sx_a : x_a.size ≤ 2000000 := (by rw [Tr.size_of_er _ _ Qx_a.out]; exact hs_a)
        have kx_a : x_a.bulk Ko.bulk ≤ 1048576 := (by rw [Tr.bulk_of_er (fun _ _ => Ko.bulk_of_er) _ _ Qx_a.out]; exact hk_a)
        clear hex_a
        simp only [Ko.val]
        have a_aq := a_a
        obtain ⟨a_a_0, a_a_1, a_a_2, a_a_3, a_a_4, a_a_5, a_a_6, a_a_7⟩ := a_aq
        have a_alt : w.heap.size < w6.heap.size := (by omega)
        have a_bq := a_b
        obtain ⟨a_b_0, a_b_1, a_b_2, a_b_3, a_b_4, a_b_5, a_b_6, a_b_7⟩ := a_bq
        have a_blt : w.heap.size + 1 < w6.heap.size := (by omega)
        have wbq := wb
        obtain ⟨wb_0, wb_1, wb_2, wb_3, wb_4, wb_5, wb_6, wb_7⟩ := wbq
        have wblt : p_vv < w6.heap.size := (by omega)
        go_wp2_with fail
        clear a_a_0 a_a_1 a_a_2 a_a_3 a_a_4 a_a_5 a_a_6 a_a_7 a_alt
        clear a_b_0 a_b_1 a_b_2 a_b_3 a_b_4 a_b_5 a_b_6 a_b_7 a_blt
        clear wb_0 wb_1 wb_2 wb_3 wb_4 wb_5 wb_6 wb_7 wblt
        obtain ⟨w7, hw7⟩ : ∃ W, W = w6.alloc (.cells #[.int .i64 x_a.a.k, .int .i64 x_a.a.n, .slice x_a.a.sA x_a.a.s.length x_a.a.sC, .int .i64 x_a.a.d.k, .int .i64 x_a.a.d.n, .string x_a.a.d.t, .slice x_a.a.d.A x_a.a.d.l.length x_a.a.d.c, .slice x_a.A x_a.l.length x_a.c] 35) := ⟨_, rfl⟩
        rw [← hw7]
        have hb7 : Below w6.heap.size w6 w7 := by rw [hw7]; exact (Below.refl _ _).alloc (Nat.le_refl _) _
        have z7 : w6.heap.size + 1 ≤ w7.heap.size := by rw [hw7]; simp
        have y7 : w7.heap.size ≤ w6.heap.size + 1 := by rw [hw7]; simp
        have xb_a : Ko.Box w7 w6.heap.size x_a := by rw [hw7]; exact Ko.Box.new _ _ _
        clear hw7
        have a_a := a_a.below hb7 (by omega)
        have a_b := a_b.below hb7 (by omega)
        have wb := wb.below hb7 (by omega)
        have ovv := ovv.below (hb7.mono (by omega))
        have ox_a := ox_a.below (hb7.mono (by omega))
        have b7 := b6.trans (hb7.mono (by omega))
        have i_a := h_a.below b7
        have i_b := h_b.below b7
        clear hb7
        refine (Ko_to_any 2000000 b w.heap.size _ (by omega) hs_b i_b (by omega)).mono ?_
        rintro e w8 ⟨x_b, rfl, hex_b, ox_b, hb8⟩
        have z8 := hb8.size
        have a_a := a_a.below hb8 (by omega)
        have a_b := a_b.below hb8 (by omega)
        have wb := wb.below hb8 (by omega)
        have xb_a := xb_a.below hb8 (by omega)
        have ovv := ovv.below (hb8.mono (by omega))
        have ox_a := ox_a.below (hb8.mono (by omega))
        have b8 := b7.trans (hb8.mono (by omega))
        have i_a := h_a.below b8
        have i_b := h_b.below b8
        clear hb8
        have Qx_b := Lib.hid hex_b
        have sx_b : x_b.size ≤ 2000000 := (by rw [Tr.size_of_er _ _ Qx_b.out]; exact hs_b)
        have kx_b : x_b.bulk Ko.bulk ≤ 1048576 := (by rw [Tr.bulk_of_er (fun _ _ => Ko.bulk_of_er) _ _ Qx_b.out]; exact hk_b)
        clear hex_b
        simp only [Ko.val]
        have a_aq := a_a
        obtain ⟨a_a_0, a_a_1, a_a_2, a_a_3, a_a_4, a_a_5, a_a_6, a_a_7⟩ := a_aq
        have a_alt : w.heap.size < w8.heap.size := (by omega)
        have a_bq := a_b
        obtain ⟨a_b_0, a_b_1, a_b_2, a_b_3, a_b_4, a_b_5, a_b_6, a_b_7⟩ := a_bq
        have a_blt : w.heap.size + 1 < w8.heap.size := (by omega)
        have wbq := wb
        obtain ⟨wb_0, wb_1, wb_2, wb_3, wb_4, wb_5, wb_6, wb_7⟩ := wbq
        have wblt : p_vv < w8.heap.size := (by omega)
        have xb_aq := xb_a
        obtain ⟨xb_a_0, xb_a_1, xb_a_2, xb_a_3, xb_a_4, xb_a_5, xb_a_6, xb_a_7⟩ := xb_aq
        have xb_alt : w6.heap.size < w8.heap.size := (by omega)
        go_wp2_with fail
        clear a_a_0 a_a_1 a_a_2 a_a_3 a_a_4 a_a_5 a_a_6 a_a_7 a_alt
        clear a_b_0 a_b_1 a_b_2 a_b_3 a_b_4 a_b_5 a_b_6 a_b_7 a_blt
        clear wb_0 wb_1 wb_2 wb_3 wb_4 wb_5 wb_6 wb_7 wblt
        clear xb_a_0 xb_a_1 xb_a_2 xb_a_3 xb_a_4 xb_a_5 xb_a_6 xb_a_7 xb_alt
        obtain ⟨w9, hw9⟩ : ∃ W, W = w8.alloc (.cells #[.int .i64 x_b.a.k, .int .i64 x_b.a.n, .slice x_b.a.sA x_b.a.s.length x_b.a.sC, .int .i64 x_b.a.d.k, .int .i64 x_b.a.d.n, .string x_b.a.d.t, .slice x_b.a.d.A x_b.a.d.l.length x_b.a.d.c, .slice x_b.A x_b.l.length x_b.c] 35) := ⟨_, rfl⟩
        rw [← hw9]
        have hb9 : Below w8.heap.size w8 w9 := by rw [hw9]; exact (Below.refl _ _).alloc (Nat.le_refl _) _
        have z9 : w8.heap.size + 1 ≤ w9.heap.size := by rw [hw9]; simp
        have y9 : w9.heap.size ≤ w8.heap.size + 1 := by rw [hw9]; simp
        have xb_b : Ko.Box w9 w8.heap.size x_b := by rw [hw9]; exact Ko.Box.new _ _ _
        clear hw9
        have a_a := a_a.below hb9 (by omega)
        have a_b := a_b.below hb9 (by omega)
        have wb := wb.below hb9 (by omega)
        have xb_a := xb_a.below hb9 (by omega)
        have ovv := ovv.below (hb9.mono (by omega))
        have ox_a := ox_a.below (hb9.mono (by omega))
        have ox_b := ox_b.below (hb9.mono (by omega))
        have b9 := b8.trans (hb9.mono (by omega))
        have i_a := h_a.below b9
        have i_b := h_b.below b9
        clear hb9
        refine (implSubC_c n x_a x_b w9.heap.size _ Qx_a.out Qx_b.out HY.out.symm (ox_a.inn.more (by omega)) (ox_b.inn.more (by omega)) (by omega) hk_a hk_b hwn).mono ?_
        rintro e w10 ⟨gv, rfl, hegv, ogv, hb10⟩
        have z10 := hb10.size
        have a_a := a_a.below hb10 (by omega)
        have a_b := a_b.below hb10 (by omega)
        have wb := wb.below hb10 (by omega)
        have xb_a := xb_a.below hb10 (by omega)
        have xb_b := xb_b.below hb10 (by omega)
        have ovv := ovv.below (hb10.mono (by omega))
        have ox_a := ox_a.below (hb10.mono (by omega))
        have ox_b := ox_b.below (hb10.mono (by omega))
        have b10 := b9.trans (hb10.mono (by omega))
        have i_a := h_a.below b10
        have i_b := h_b.below b10
        clear hb10
        have Qgv := Lib.hid hegv
        have kgv : gv.bulk Ko.bulk ≤ 1300000 := (by rw [Tr.bulk_of_er (f := Ko.bulk) (fun _ _ => Ko.bulk_of_er) _ _ (Qgv.out.trans HY.out)]; exact Tr.subC_bulk hk_a)
        have wk_gv := Tr.kwt_le gv
        clear hegv
        simp only [Ko.val]
        have a_aq := a_a
        obtain ⟨a_a_0, a_a_1, a_a_2, a_a_3, a_a_4, a_a_5, a_a_6, a_a_7⟩ := a_aq
        have a_alt : w.heap.size < w10.heap.size := (by omega)
        have a_bq := a_b
        obtain ⟨a_b_0, a_b_1, a_b_2, a_b_3, a_b_4, a_b_5, a_b_6, a_b_7⟩ := a_bq
        have a_blt : w.heap.size + 1 < w10.heap.size := (by omega)
        have wbq := wb
        obtain ⟨wb_0, wb_1, wb_2, wb_3, wb_4, wb_5, wb_6, wb_7⟩ := wbq
        have wblt : p_vv < w10.heap.size := (by omega)
        have xb_aq := xb_a
        obtain ⟨xb_a_0, xb_a_1, xb_a_2, xb_a_3, xb_a_4, xb_a_5, xb_a_6, xb_a_7⟩ := xb_aq
        have xb_alt : w6.heap.size < w10.heap.size := (by omega)
        have xb_bq := xb_b
        obtain ⟨xb_b_0, xb_b_1, xb_b_2, xb_b_3, xb_b_4, xb_b_5, xb_b_6, xb_b_7⟩ := xb_bq
        have xb_blt : w8.heap.size < w10.heap.size := (by omega)
        go_wp2_with fail
        clear a_a_0 a_a_1 a_a_2 a_a_3 a_a_4 a_a_5 a_a_6 a_a_7 a_alt
        clear a_b_0 a_b_1 a_b_2 a_b_3 a_b_4 a_b_5 a_b_6 a_b_7 a_blt
        clear wb_0 wb_1 wb_2 wb_3 wb_4 wb_5 wb_6 wb_7 wblt
        clear xb_a_0 xb_a_1 xb_a_2 xb_a_3 xb_a_4 xb_a_5 xb_a_6 xb_a_7 xb_alt
        clear xb_b_0 xb_b_1 xb_b_2 xb_b_3 xb_b_4 xb_b_5 xb_b_6 xb_b_7 xb_blt
        obtain ⟨w11, hw11⟩ : ∃ W, W = w10.alloc (.cells #[.int .i64 gv.a.k, .int .i64 gv.a.n, .slice gv.a.sA gv.a.s.length gv.a.sC, .int .i64 gv.a.d.k, .int .i64 gv.a.d.n, .string gv.a.d.t, .slice gv.a.d.A gv.a.d.l.length gv.a.d.c, .slice gv.A gv.l.length gv.c] 35) := ⟨_, rfl⟩
        rw [← hw11]
        have hb11 : Below w10.heap.size w10 w11 := by rw [hw11]; exact (Below.refl _ _).alloc (Nat.le_refl _) _
        have z11 : w10.heap.size + 1 ≤ w11.heap.size := by rw [hw11]; simp
        have y11 : w11.heap.size ≤ w10.heap.size + 1 := by rw [hw11]; simp
        have gb : Ko.Box w11 w10.heap.size gv := by rw [hw11]; exact Ko.Box.new _ _ _
        clear hw11
        have a_a := a_a.below hb11 (by omega)
        have a_b := a_b.below hb11 (by omega)
        have wb := wb.below hb11 (by omega)
        have xb_a := xb_a.below hb11 (by omega)
        have xb_b := xb_b.below hb11 (by omega)
        have ovv := ovv.below (hb11.mono (by omega))
        have ox_a := ox_a.below (hb11.mono (by omega))
        have ox_b := ox_b.below (hb11.mono (by omega))
        have ogv := ogv.below (hb11.mono (by omega))
        have b11 := b10.trans (hb11.mono (by omega))
        have i_a := h_a.below b11
        have i_b := h_b.below b11
        clear hb11
        refine (Ko_eq_any _ gv vv w11.heap.size _ (Nat.le_refl _) (Qgv.out.trans Qvv.out.symm) (ogv.inn.more (by omega)) (ovv.inn.more (by omega)) (by omega)).mono ?_
        rintro e w12 ⟨rfl, hb12⟩
        have z12 := hb12.size
        have a_a := a_a.below hb12 (by omega)
        have a_b := a_b.below hb12 (by omega)
        have wb := wb.below hb12 (by omega)
        have xb_a := xb_a.below hb12 (by omega)
        have xb_b := xb_b.below hb12 (by omega)
        have gb := gb.below hb12 (by omega)
        have ovv := ovv.below (hb12.mono (by omega))
        have ox_a := ox_a.below (hb12.mono (by omega))
        have ox_b := ox_b.below (hb12.mono (by omega))
        have ogv := ogv.below (hb12.mono (by omega))
        have b12 := b11.trans (hb12.mono (by omega))
        have i_a := h_a.below b12
        have i_b := h_b.below b12
        clear hb12
        have a_aq := a_a
        obtain ⟨a_a_0, a_a_1, a_a_2, a_a_3, a_a_4, a_a_5, a_a_6, a_a_7⟩ := a_aq
        have a_alt : w.heap.size < w12.heap.size := (by omega)
        have a_bq := a_b
        obtain ⟨a_b_0, a_b_1, a_b_2, a_b_3, a_b_4, a_b_5, a_b_6, a_b_7⟩ := a_bq
        have a_blt : w.heap.size + 1 < w12.heap.size := (by omega)
        have wbq := wb
        obtain ⟨wb_0, wb_1, wb_2, wb_3, wb_4, wb_5, wb_6, wb_7⟩ := wbq
        have wblt : p_vv < w12.heap.size := (by omega)
        have xb_aq := xb_a
        obtain ⟨xb_a_0, xb_a_1, xb_a_2, xb_a_3, xb_a_4, xb_a_5, xb_a_6, xb_a_7⟩ := xb_aq
        have xb_alt : w6.heap.size < w12.heap.size := (by omega)
        have xb_bq := xb_b
        obtain ⟨xb_b_0, xb_b_1, xb_b_2, xb_b_3, xb_b_4, xb_b_5, xb_b_6, xb_b_7⟩ := xb_bq
        have xb_blt : w8.heap.size < w12.heap.size := (by omega)
        have gbq := gb
        obtain ⟨gb_0, gb_1, gb_2, gb_3, gb_4, gb_5, gb_6, gb_7⟩ := gbq
        have gblt : w10.heap.size < w12.heap.size := (by omega)
        go_wp2_with fail
        clear a_a_0 a_a_1 a_a_2 a_a_3 a_a_4 a_a_5 a_a_6 a_a_7 a_alt
        clear a_b_0 a_b_1 a_b_2 a_b_3 a_b_4 a_b_5 a_b_6 a_b_7 a_blt
        clear wb_0 wb_1 wb_2 wb_3 wb_4 wb_5 wb_6 wb_7 wblt
        clear xb_a_0 xb_a_1 xb_a_2 xb_a_3 xb_a_4 xb_a_5 xb_a_6 xb_a_7 xb_alt
        clear xb_b_0 xb_b_1 xb_b_2 xb_b_3 xb_b_4 xb_b_5 xb_b_6 xb_b_7 xb_blt
        clear gb_0 gb_1 gb_2 gb_3 gb_4 gb_5 gb_6 gb_7 gblt
        have a_aq := a_a
        obtain ⟨a_a_0, a_a_1, a_a_2, a_a_3, a_a_4, a_a_5, a_a_6, a_a_7⟩ := a_aq
        have a_alt : w.heap.size < w12.heap.size := (by omega)
        have a_bq := a_b
        obtain ⟨a_b_0, a_b_1, a_b_2, a_b_3, a_b_4, a_b_5, a_b_6, a_b_7⟩ := a_bq
        have a_blt : w.heap.size + 1 < w12.heap.size := (by omega)
        have wbq := wb
        obtain ⟨wb_0, wb_1, wb_2, wb_3, wb_4, wb_5, wb_6, wb_7⟩ := wbq
        have wblt : p_vv < w12.heap.size := (by omega)
        have xb_aq := xb_a
        obtain ⟨xb_a_0, xb_a_1, xb_a_2, xb_a_3, xb_a_4, xb_a_5, xb_a_6, xb_a_7⟩ := xb_aq
        have xb_alt : w6.heap.size < w12.heap.size := (by omega)
        have xb_bq := xb_b
        obtain ⟨xb_b_0, xb_b_1, xb_b_2, xb_b_3, xb_b_4, xb_b_5, xb_b_6, xb_b_7⟩ := xb_bq
        have xb_blt : w8.heap.size < w12.heap.size := (by omega)
        have gbq := gb
        obtain ⟨gb_0, gb_1, gb_2, gb_3, gb_4, gb_5, gb_6, gb_7⟩ := gbq
        have gblt : w10.heap.size < w12.heap.size := (by omega)
        have tok3 : True := trivial
        have tok4 : True := trivial
        go_region_held3 (fun w' => w'.cell? ⟨w.heap.size, 0, none⟩ = some (.int .i64 a.a.k) ∧ w'.cell? ⟨w.heap.size, 1, none⟩ = some (.int .i64 a.a.n) ∧ w'.cell? ⟨w.heap.size, 2, none⟩ = some (.slice a.a.sA a.a.s.length a.a.sC) ∧ w'.cell? ⟨w.heap.size, 3, none⟩ = some (.int .i64 a.a.d.k) ∧ w'.cell? ⟨w.heap.size, 4, none⟩ = some (.int .i64 a.a.d.n) ∧ w'.cell? ⟨w.heap.size, 5, none⟩ = some (.string a.a.d.t) ∧ w'.cell? ⟨w.heap.size, 6, none⟩ = some (.slice a.a.d.A a.a.d.l.length a.a.d.c) ∧ w'.cell? ⟨w.heap.size, 7, none⟩ = some (.slice a.A a.l.length a.c) ∧ w'.cell? ⟨w6.heap.size, 0, none⟩ = some (.int .i64 x_a.a.k) ∧ w'.cell? ⟨w6.heap.size, 1, none⟩ = some (.int .i64 x_a.a.n) ∧ w'.cell? ⟨w6.heap.size, 2, none⟩ = some (.slice x_a.a.sA x_a.a.s.length x_a.a.sC) ∧ w'.cell? ⟨w6.heap.size, 3, none⟩ = some (.int .i64 x_a.a.d.k) ∧ w'.cell? ⟨w6.heap.size, 4, none⟩ = some (.int .i64 x_a.a.d.n) ∧ w'.cell? ⟨w6.heap.size, 5, none⟩ = some (.string x_a.a.d.t) ∧ w'.cell? ⟨w6.heap.size, 6, none⟩ = some (.slice x_a.a.d.A x_a.a.d.l.length x_a.a.d.c) ∧ w'.cell? ⟨w6.heap.size, 7, none⟩ = some (.slice x_a.A x_a.l.length x_a.c)) (go_keep)
          (first
            | (go_at_call 14; have _t := tok3; refine (Ko_to_any 2000000 a w.heap.size _ ?_ hs_a ?_ ?_).mono ?_; omega; exact i_a.drew; (show w.heap.size ≤ w12.heap.size); omega; rintro e w13 ⟨y_a, rfl, hey_a, oy_a, hb13⟩; have hb13 : Below w12.heap.size w12 w13 := below_undrew hb13; have z13 : w12.heap.size ≤ w13.heap.size := hb13.size; clear tok3; have Qy_a := Lib.hid hey_a; clear hey_a; have a_a := a_a.below hb13 (by omega); have a_b := a_b.below hb13 (by omega); have wb := wb.below hb13 (by omega); have xb_a := xb_a.below hb13 (by omega); have xb_b := xb_b.below hb13 (by omega); have gb := gb.below hb13 (by omega); have ovv := ovv.below (hb13.mono (by omega)); have ox_a := ox_a.below (hb13.mono (by omega)); have ox_b := ox_b.below (hb13.mono (by omega)); have ogv := ogv.below (hb13.mono (by omega)); have b13 := b12.trans (hb13.mono (by omega)); have i_a := h_a.below b13; have i_b := h_b.below b13; clear hb13; have a_aq := a_a; obtain ⟨a_a_0, a_a_1, a_a_2, a_a_3, a_a_4, a_a_5, a_a_6, a_a_7⟩ := a_aq; have a_alt : w.heap.size < w13.heap.size := (by omega); have a_bq := a_b; obtain ⟨a_b_0, a_b_1, a_b_2, a_b_3, a_b_4, a_b_5, a_b_6, a_b_7⟩ := a_bq; have a_blt : w.heap.size + 1 < w13.heap.size := (by omega); have wbq := wb; obtain ⟨wb_0, wb_1, wb_2, wb_3, wb_4, wb_5, wb_6, wb_7⟩ := wbq; have wblt : p_vv < w13.heap.size := (by omega); have xb_aq := xb_a; obtain ⟨xb_a_0, xb_a_1, xb_a_2, xb_a_3, xb_a_4, xb_a_5, xb_a_6, xb_a_7⟩ := xb_aq; have xb_alt : w6.heap.size < w13.heap.size := (by omega); have xb_bq := xb_b; obtain ⟨xb_b_0, xb_b_1, xb_b_2, xb_b_3, xb_b_4, xb_b_5, xb_b_6, xb_b_7⟩ := xb_bq; have xb_blt : w8.heap.size < w13.heap.size := (by omega); have gbq := gb; obtain ⟨gb_0, gb_1, gb_2, gb_3, gb_4, gb_5, gb_6, gb_7⟩ := gbq; have gblt : w10.heap.size < w13.heap.size := (by omega))
            | (go_at_call 16; have _t := tok4; refine (Ko_eq_any _ x_a y_a w13.heap.size _ (Nat.le_refl _) (Qx_a.out.trans Qy_a.out.symm) ?_ ?_ ?_).mono ?_; exact ox_a.inn.more (by omega); exact oy_a.inn.more (by omega); omega; rintro e w14 ⟨rfl, hb14⟩; have z14 : w13.heap.size ≤ w14.heap.size := hb14.size; clear tok4; have a_a := a_a.below hb14 (by omega); have a_b := a_b.below hb14 (by omega); have wb := wb.below hb14 (by omega); have xb_a := xb_a.below hb14 (by omega); have xb_b := xb_b.below hb14 (by omega); have gb := gb.below hb14 (by omega); have ovv := ovv.below (hb14.mono (by omega)); have ox_a := ox_a.below (hb14.mono (by omega)); have ox_b := ox_b.below (hb14.mono (by omega)); have ogv := ogv.below (hb14.mono (by omega)); have b14 := b13.trans (hb14.mono (by omega)); have i_a := h_a.below b14; have i_b := h_b.below b14; clear hb14; have a_aq := a_a; obtain ⟨a_a_0, a_a_1, a_a_2, a_a_3, a_a_4, a_a_5, a_a_6, a_a_7⟩ := a_aq; have a_alt : w.heap.size < w14.heap.size := (by omega); have a_bq := a_b; obtain ⟨a_b_0, a_b_1, a_b_2, a_b_3, a_b_4, a_b_5, a_b_6, a_b_7⟩ := a_bq; have a_blt : w.heap.size + 1 < w14.heap.size := (by omega); have wbq := wb; obtain ⟨wb_0, wb_1, wb_2, wb_3, wb_4, wb_5, wb_6, wb_7⟩ := wbq; have wblt : p_vv < w14.heap.size := (by omega); have xb_aq := xb_a; obtain ⟨xb_a_0, xb_a_1, xb_a_2, xb_a_3, xb_a_4, xb_a_5, xb_a_6, xb_a_7⟩ := xb_aq; have xb_alt : w6.heap.size < w14.heap.size := (by omega); have xb_bq := xb_b; obtain ⟨xb_b_0, xb_b_1, xb_b_2, xb_b_3, xb_b_4, xb_b_5, xb_b_6, xb_b_7⟩ := xb_bq; have xb_blt : w8.heap.size < w14.heap.size := (by omega); have gbq := gb; obtain ⟨gb_0, gb_1, gb_2, gb_3, gb_4, gb_5, gb_6, gb_7⟩ := gbq; have gblt : w10.heap.size < w14.heap.size := (by omega)))
        clear a_a_0 a_a_1 a_a_2 a_a_3 a_a_4 a_a_5 a_a_6 a_a_7 a_alt
        clear a_b_0 a_b_1 a_b_2 a_b_3 a_b_4 a_b_5 a_b_6 a_b_7 a_blt
        clear wb_0 wb_1 wb_2 wb_3 wb_4 wb_5 wb_6 wb_7 wblt
        clear xb_a_0 xb_a_1 xb_a_2 xb_a_3 xb_a_4 xb_a_5 xb_a_6 xb_a_7 xb_alt
        clear xb_b_0 xb_b_1 xb_b_2 xb_b_3 xb_b_4 xb_b_5 xb_b_6 xb_b_7 xb_blt
        clear gb_0 gb_1 gb_2 gb_3 gb_4 gb_5 gb_6 gb_7 gblt
        clear oy_a
        have a_aq := a_a
        obtain ⟨a_a_0, a_a_1, a_a_2, a_a_3, a_a_4, a_a_5, a_a_6, a_a_7⟩ := a_aq
        have a_alt : w.heap.size < w14.heap.size := (by omega)
        have a_bq := a_b
        obtain ⟨a_b_0, a_b_1, a_b_2, a_b_3, a_b_4, a_b_5, a_b_6, a_b_7⟩ := a_bq
        have a_blt : w.heap.size + 1 < w14.heap.size := (by omega)
        have wbq := wb
        obtain ⟨wb_0, wb_1, wb_2, wb_3, wb_4, wb_5, wb_6, wb_7⟩ := wbq
        have wblt : p_vv < w14.heap.size := (by omega)
        have xb_aq := xb_a
        obtain ⟨xb_a_0, xb_a_1, xb_a_2, xb_a_3, xb_a_4, xb_a_5, xb_a_6, xb_a_7⟩ := xb_aq
        have xb_alt : w6.heap.size < w14.heap.size := (by omega)
        have xb_bq := xb_b
        obtain ⟨xb_b_0, xb_b_1, xb_b_2, xb_b_3, xb_b_4, xb_b_5, xb_b_6, xb_b_7⟩ := xb_bq
        have xb_blt : w8.heap.size < w14.heap.size := (by omega)
        have gbq := gb
        obtain ⟨gb_0, gb_1, gb_2, gb_3, gb_4, gb_5, gb_6, gb_7⟩ := gbq
        have gblt : w10.heap.size < w14.heap.size := (by omega)
        go_wp2_with fail
        clear a_a_0 a_a_1 a_a_2 a_a_3 a_a_4 a_a_5 a_a_6 a_a_7 a_alt
        clear a_b_0 a_b_1 a_b_2 a_b_3 a_b_4 a_b_5 a_b_6 a_b_7 a_blt
        clear wb_0 wb_1 wb_2 wb_3 wb_4 wb_5 wb_6 wb_7 wblt
        clear xb_a_0 xb_a_1 xb_a_2 xb_a_3 xb_a_4 xb_a_5 xb_a_6 xb_a_7 xb_alt
        clear xb_b_0 xb_b_1 xb_b_2 xb_b_3 xb_b_4 xb_b_5 xb_b_6 xb_b_7 xb_blt
        clear gb_0 gb_1 gb_2 gb_3 gb_4 gb_5 gb_6 gb_7 gblt
        have a_aq := a_a
        obtain ⟨a_a_0, a_a_1, a_a_2, a_a_3, a_a_4, a_a_5, a_a_6, a_a_7⟩ := a_aq
        have a_alt : w.heap.size < w14.heap.size := (by omega)
        have a_bq := a_b
        obtain ⟨a_b_0, a_b_1, a_b_2, a_b_3, a_b_4, a_b_5, a_b_6, a_b_7⟩ := a_bq
        have a_blt : w.heap.size + 1 < w14.heap.size := (by omega)
        have wbq := wb
        obtain ⟨wb_0, wb_1, wb_2, wb_3, wb_4, wb_5, wb_6, wb_7⟩ := wbq
        have wblt : p_vv < w14.heap.size := (by omega)
        have xb_aq := xb_a
        obtain ⟨xb_a_0, xb_a_1, xb_a_2, xb_a_3, xb_a_4, xb_a_5, xb_a_6, xb_a_7⟩ := xb_aq
        have xb_alt : w6.heap.size < w14.heap.size := (by omega)
        have xb_bq := xb_b
        obtain ⟨xb_b_0, xb_b_1, xb_b_2, xb_b_3, xb_b_4, xb_b_5, xb_b_6, xb_b_7⟩ := xb_bq
        have xb_blt : w8.heap.size < w14.heap.size := (by omega)
        have gbq := gb
        obtain ⟨gb_0, gb_1, gb_2, gb_3, gb_4, gb_5, gb_6, gb_7⟩ := gbq
        have gblt : w10.heap.size < w14.heap.size := (by omega)
        have tok5 : True := trivial
        have tok6 : True := trivial
        go_region_held3 (fun w' => w'.cell? ⟨w.heap.size + 1, 0, none⟩ = some (.int .i64 b.a.k) ∧ w'.cell? ⟨w.heap.size + 1, 1, none⟩ = some (.int .i64 b.a.n) ∧ w'.cell? ⟨w.heap.size + 1, 2, none⟩ = some (.slice b.a.sA b.a.s.length b.a.sC) ∧ w'.cell? ⟨w.heap.size + 1, 3, none⟩ = some (.int .i64 b.a.d.k) ∧ w'.cell? ⟨w.heap.size + 1, 4, none⟩ = some (.int .i64 b.a.d.n) ∧ w'.cell? ⟨w.heap.size + 1, 5, none⟩ = some (.string b.a.d.t) ∧ w'.cell? ⟨w.heap.size + 1, 6, none⟩ = some (.slice b.a.d.A b.a.d.l.length b.a.d.c) ∧ w'.cell? ⟨w.heap.size + 1, 7, none⟩ = some (.slice b.A b.l.length b.c) ∧ w'.cell? ⟨w8.heap.size, 0, none⟩ = some (.int .i64 x_b.a.k) ∧ w'.cell? ⟨w8.heap.size, 1, none⟩ = some (.int .i64 x_b.a.n) ∧ w'.cell? ⟨w8.heap.size, 2, none⟩ = some (.slice x_b.a.sA x_b.a.s.length x_b.a.sC) ∧ w'.cell? ⟨w8.heap.size, 3, none⟩ = some (.int .i64 x_b.a.d.k) ∧ w'.cell? ⟨w8.heap.size, 4, none⟩ = some (.int .i64 x_b.a.d.n) ∧ w'.cell? ⟨w8.heap.size, 5, none⟩ = some (.string x_b.a.d.t) ∧ w'.cell? ⟨w8.heap.size, 6, none⟩ = some (.slice x_b.a.d.A x_b.a.d.l.length x_b.a.d.c) ∧ w'.cell? ⟨w8.heap.size, 7, none⟩ = some (.slice x_b.A x_b.l.length x_b.c)) (go_keep)
          (first
            | (go_at_call 14; have _t := tok5; refine (Ko_to_any 2000000 b w.heap.size _ ?_ hs_b ?_ ?_).mono ?_; omega; exact i_b.drew; (show w.heap.size ≤ w14.heap.size); omega; rintro e w15 ⟨y_b, rfl, hey_b, oy_b, hb15⟩; have hb15 : Below w14.heap.size w14 w15 := below_undrew hb15; have z15 : w14.heap.size ≤ w15.heap.size := hb15.size; clear tok5; have Qy_b := Lib.hid hey_b; clear hey_b; have a_a := a_a.below hb15 (by omega); have a_b := a_b.below hb15 (by omega); have wb := wb.below hb15 (by omega); have xb_a := xb_a.below hb15 (by omega); have xb_b := xb_b.below hb15 (by omega); have gb := gb.below hb15 (by omega); have ovv := ovv.below (hb15.mono (by omega)); have ox_a := ox_a.below (hb15.mono (by omega)); have ox_b := ox_b.below (hb15.mono (by omega)); have ogv := ogv.below (hb15.mono (by omega)); have b15 := b14.trans (hb15.mono (by omega)); have i_a := h_a.below b15; have i_b := h_b.below b15; clear hb15; have a_aq := a_a; obtain ⟨a_a_0, a_a_1, a_a_2, a_a_3, a_a_4, a_a_5, a_a_6, a_a_7⟩ := a_aq; have a_alt : w.heap.size < w15.heap.size := (by omega); have a_bq := a_b; obtain ⟨a_b_0, a_b_1, a_b_2, a_b_3, a_b_4, a_b_5, a_b_6, a_b_7⟩ := a_bq; have a_blt : w.heap.size + 1 < w15.heap.size := (by omega); have wbq := wb; obtain ⟨wb_0, wb_1, wb_2, wb_3, wb_4, wb_5, wb_6, wb_7⟩ := wbq; have wblt : p_vv < w15.heap.size := (by omega); have xb_aq := xb_a; obtain ⟨xb_a_0, xb_a_1, xb_a_2, xb_a_3, xb_a_4, xb_a_5, xb_a_6, xb_a_7⟩ := xb_aq; have xb_alt : w6.heap.size < w15.heap.size := (by omega); have xb_bq := xb_b; obtain ⟨xb_b_0, xb_b_1, xb_b_2, xb_b_3, xb_b_4, xb_b_5, xb_b_6, xb_b_7⟩ := xb_bq; have xb_blt : w8.heap.size < w15.heap.size := (by omega); have gbq := gb; obtain ⟨gb_0, gb_1, gb_2, gb_3, gb_4, gb_5, gb_6, gb_7⟩ := gbq; have gblt : w10.heap.size < w15.heap.size := (by omega))
            | (go_at_call 16; have _t := tok6; refine (Ko_eq_any _ x_b y_b w15.heap.size _ (Nat.le_refl _) (Qx_b.out.trans Qy_b.out.symm) ?_ ?_ ?_).mono ?_; exact ox_b.inn.more (by omega); exact oy_b.inn.more (by omega); omega; rintro e w16 ⟨rfl, hb16⟩; have z16 : w15.heap.size ≤ w16.heap.size := hb16.size; clear tok6; have a_a := a_a.below hb16 (by omega); have a_b := a_b.below hb16 (by omega); have wb := wb.below hb16 (by omega); have xb_a := xb_a.below hb16 (by omega); have xb_b := xb_b.below hb16 (by omega); have gb := gb.below hb16 (by omega); have ovv := ovv.below (hb16.mono (by omega)); have ox_a := ox_a.below (hb16.mono (by omega)); have ox_b := ox_b.below (hb16.mono (by omega)); have ogv := ogv.below (hb16.mono (by omega)); have b16 := b15.trans (hb16.mono (by omega)); have i_a := h_a.below b16; have i_b := h_b.below b16; clear hb16; have a_aq := a_a; obtain ⟨a_a_0, a_a_1, a_a_2, a_a_3, a_a_4, a_a_5, a_a_6, a_a_7⟩ := a_aq; have a_alt : w.heap.size < w16.heap.size := (by omega); have a_bq := a_b; obtain ⟨a_b_0, a_b_1, a_b_2, a_b_3, a_b_4, a_b_5, a_b_6, a_b_7⟩ := a_bq; have a_blt : w.heap.size + 1 < w16.heap.size := (by omega); have wbq := wb; obtain ⟨wb_0, wb_1, wb_2, wb_3, wb_4, wb_5, wb_6, wb_7⟩ := wbq; have wblt : p_vv < w16.heap.size := (by omega); have xb_aq := xb_a; obtain ⟨xb_a_0, xb_a_1, xb_a_2, xb_a_3, xb_a_4, xb_a_5, xb_a_6, xb_a_7⟩ := xb_aq; have xb_alt : w6.heap.size < w16.heap.size := (by omega); have xb_bq := xb_b; obtain ⟨xb_b_0, xb_b_1, xb_b_2, xb_b_3, xb_b_4, xb_b_5, xb_b_6, xb_b_7⟩ := xb_bq; have xb_blt : w8.heap.size < w16.heap.size := (by omega); have gbq := gb; obtain ⟨gb_0, gb_1, gb_2, gb_3, gb_4, gb_5, gb_6, gb_7⟩ := gbq; have gblt : w10.heap.size < w16.heap.size := (by omega)))
        clear a_a_0 a_a_1 a_a_2 a_a_3 a_a_4 a_a_5 a_a_6 a_a_7 a_alt
        clear a_b_0 a_b_1 a_b_2 a_b_3 a_b_4 a_b_5 a_b_6 a_b_7 a_blt
        clear wb_0 wb_1 wb_2 wb_3 wb_4 wb_5 wb_6 wb_7 wblt
        clear xb_a_0 xb_a_1 xb_a_2 xb_a_3 xb_a_4 xb_a_5 xb_a_6 xb_a_7 xb_alt
        clear xb_b_0 xb_b_1 xb_b_2 xb_b_3 xb_b_4 xb_b_5 xb_b_6 xb_b_7 xb_blt
        clear gb_0 gb_1 gb_2 gb_3 gb_4 gb_5 gb_6 gb_7 gblt
        clear oy_b
        have a_aq := a_a
        obtain ⟨a_a_0, a_a_1, a_a_2, a_a_3, a_a_4, a_a_5, a_a_6, a_a_7⟩ := a_aq
        have a_alt : w.heap.size < w16.heap.size := (by omega)
        have a_bq := a_b
        obtain ⟨a_b_0, a_b_1, a_b_2, a_b_3, a_b_4, a_b_5, a_b_6, a_b_7⟩ := a_bq
        have a_blt : w.heap.size + 1 < w16.heap.size := (by omega)
        have wbq := wb
        obtain ⟨wb_0, wb_1, wb_2, wb_3, wb_4, wb_5, wb_6, wb_7⟩ := wbq
        have wblt : p_vv < w16.heap.size := (by omega)
        have xb_aq := xb_a
        obtain ⟨xb_a_0, xb_a_1, xb_a_2, xb_a_3, xb_a_4, xb_a_5, xb_a_6, xb_a_7⟩ := xb_aq
        have xb_alt : w6.heap.size < w16.heap.size := (by omega)
        have xb_bq := xb_b
        obtain ⟨xb_b_0, xb_b_1, xb_b_2, xb_b_3, xb_b_4, xb_b_5, xb_b_6, xb_b_7⟩ := xb_bq
        have xb_blt : w8.heap.size < w16.heap.size := (by omega)
        have gbq := gb
        obtain ⟨gb_0, gb_1, gb_2, gb_3, gb_4, gb_5, gb_6, gb_7⟩ := gbq
        have gblt : w10.heap.size < w16.heap.size := (by omega)
        go_wp2_with fail
        clear a_a_0 a_a_1 a_a_2 a_a_3 a_a_4 a_a_5 a_a_6 a_a_7 a_alt
        clear a_b_0 a_b_1 a_b_2 a_b_3 a_b_4 a_b_5 a_b_6 a_b_7 a_blt
        clear wb_0 wb_1 wb_2 wb_3 wb_4 wb_5 wb_6 wb_7 wblt
        clear xb_a_0 xb_a_1 xb_a_2 xb_a_3 xb_a_4 xb_a_5 xb_a_6 xb_a_7 xb_alt
        clear xb_b_0 xb_b_1 xb_b_2 xb_b_3 xb_b_4 xb_b_5 xb_b_6 xb_b_7 xb_blt
        clear gb_0 gb_1 gb_2 gb_3 gb_4 gb_5 gb_6 gb_7 gblt
        have wq_a := Tr.kwt_le x_a
        refine (Ko_mark_any x_a w5.heap.size w6.heap.size _ 1 (by omega) (by omega) (by omega) ox_a (by omega)).mono ?_
        rintro e w17 ⟨rfl, x_am, hc17⟩
        have z17 := hc17.size
        have hl17 : ∀ k ∈ Ko.E.blks x_a, w5.heap.size ≤ k ∧ k < w6.heap.size := fun k hk => ⟨ox_a.lo_ _ hk, ox_a.inn.blk_lt _ hk⟩
        have a_a := a_a.chg hc17 (by omega) (fun hm => by have := hl17 _ hm; omega)
        have a_b := a_b.chg hc17 (by omega) (fun hm => by have := hl17 _ hm; omega)
        have wb := wb.chg hc17 (by omega) (fun hm => by have := hl17 _ hm; omega)
        have xb_a := xb_a.chg hc17 (by omega) (fun hm => by have := hl17 _ hm; omega)
        have xb_b := xb_b.chg hc17 (by omega) (fun hm => by have := hl17 _ hm; omega)
        have gb := gb.chg hc17 (by omega) (fun hm => by have := hl17 _ hm; omega)
        have ovv := ovv.keepB (w' := w17) (fun k hk => hc17.block k (by have := ovv.inn.blk_lt _ hk; omega) (fun hm => by have := hl17 _ hm; have := ovv.inn.blk_lt _ hk; have := ovv.lo_ _ hk; omega))
        have ox_b := ox_b.keepB (w' := w17) (fun k hk => hc17.block k (by have := ox_b.inn.blk_lt _ hk; omega) (fun hm => by have := hl17 _ hm; have := ox_b.inn.blk_lt _ hk; have := ox_b.lo_ _ hk; omega))
        have ogv := ogv.keepB (w' := w17) (fun k hk => hc17.block k (by have := ogv.inn.blk_lt _ hk; omega) (fun hm => by have := hl17 _ hm; have := ogv.inn.blk_lt _ hk; have := ogv.lo_ _ hk; omega))
        have b17 : Below w.heap.size w w17 := b16.trans (hc17.below (fun k hk => by have := hl17 _ hk; omega) (by omega))
        have i_a := h_a.below b17
        have i_b := h_b.below b17
        have ox_a := x_am
        clear hc17 hl17 x_am
        have n2_a : ¬ (1 + (Tr.kwt x_a : Int) < 0) := by omega
        clear ox_a
        have a_aq := a_a
        obtain ⟨a_a_0, a_a_1, a_a_2, a_a_3, a_a_4, a_a_5, a_a_6, a_a_7⟩ := a_aq
        have a_alt : w.heap.size < w17.heap.size := (by omega)
        have a_bq := a_b
        obtain ⟨a_b_0, a_b_1, a_b_2, a_b_3, a_b_4, a_b_5, a_b_6, a_b_7⟩ := a_bq
        have a_blt : w.heap.size + 1 < w17.heap.size := (by omega)
        have wbq := wb
        obtain ⟨wb_0, wb_1, wb_2, wb_3, wb_4, wb_5, wb_6, wb_7⟩ := wbq
        have wblt : p_vv < w17.heap.size := (by omega)
        have xb_aq := xb_a
        obtain ⟨xb_a_0, xb_a_1, xb_a_2, xb_a_3, xb_a_4, xb_a_5, xb_a_6, xb_a_7⟩ := xb_aq
        have xb_alt : w6.heap.size < w17.heap.size := (by omega)
        have xb_bq := xb_b
        obtain ⟨xb_b_0, xb_b_1, xb_b_2, xb_b_3, xb_b_4, xb_b_5, xb_b_6, xb_b_7⟩ := xb_bq
        have xb_blt : w8.heap.size < w17.heap.size := (by omega)
        have gbq := gb
        obtain ⟨gb_0, gb_1, gb_2, gb_3, gb_4, gb_5, gb_6, gb_7⟩ := gbq
        have gblt : w10.heap.size < w17.heap.size := (by omega)
        go_wp2_with fail
        clear a_a_0 a_a_1 a_a_2 a_a_3 a_a_4 a_a_5 a_a_6 a_a_7 a_alt
        clear a_b_0 a_b_1 a_b_2 a_b_3 a_b_4 a_b_5 a_b_6 a_b_7 a_blt
        clear wb_0 wb_1 wb_2 wb_3 wb_4 wb_5 wb_6 wb_7 wblt
        clear xb_a_0 xb_a_1 xb_a_2 xb_a_3 xb_a_4 xb_a_5 xb_a_6 xb_a_7 xb_alt
        clear xb_b_0 xb_b_1 xb_b_2 xb_b_3 xb_b_4 xb_b_5 xb_b_6 xb_b_7 xb_blt
        clear gb_0 gb_1 gb_2 gb_3 gb_4 gb_5 gb_6 gb_7 gblt
        have wq_b := Tr.kwt_le x_b
        refine (Ko_markq_any x_b w7.heap.size w8.heap.size _ (1 + (Tr.kwt x_a : Int)) (by omega) (by omega) (by omega) ox_b (by omega)).mono ?_
        rintro e w18 ⟨rfl, x_bm, hc18⟩
        have z18 := hc18.size
        have hl18 : ∀ k ∈ Ko.E.blks x_b, w7.heap.size ≤ k ∧ k < w8.heap.size := fun k hk => ⟨ox_b.lo_ _ hk, ox_b.inn.blk_lt _ hk⟩
        have a_a := a_a.chg hc18 (by omega) (fun hm => by have := hl18 _ hm; omega)
        have a_b := a_b.chg hc18 (by omega) (fun hm => by have := hl18 _ hm; omega)
        have wb := wb.chg hc18 (by omega) (fun hm => by have := hl18 _ hm; omega)
        have xb_a := xb_a.chg hc18 (by omega) (fun hm => by have := hl18 _ hm; omega)
        have xb_b := xb_b.chg hc18 (by omega) (fun hm => by have := hl18 _ hm; omega)
        have gb := gb.chg hc18 (by omega) (fun hm => by have := hl18 _ hm; omega)
        have ovv := ovv.keepB (w' := w18) (fun k hk => hc18.block k (by have := ovv.inn.blk_lt _ hk; omega) (fun hm => by have := hl18 _ hm; have := ovv.inn.blk_lt _ hk; have := ovv.lo_ _ hk; omega))
        have ogv := ogv.keepB (w' := w18) (fun k hk => hc18.block k (by have := ogv.inn.blk_lt _ hk; omega) (fun hm => by have := hl18 _ hm; have := ogv.inn.blk_lt _ hk; have := ogv.lo_ _ hk; omega))
        have b18 : Below w.heap.size w w18 := b17.trans (hc18.below (fun k hk => by have := hl18 _ hk; omega) (by omega))
        have i_a := h_a.below b18
        have i_b := h_b.below b18
        have ox_b := x_bm
        clear hc18 hl18 x_bm
        have n2_b : ¬ (1 + (Tr.kwt x_a : Int) + (Tr.kwt x_b : Int) < 0) := by omega
        clear ox_b
        have a_aq := a_a
        obtain ⟨a_a_0, a_a_1, a_a_2, a_a_3, a_a_4, a_a_5, a_a_6, a_a_7⟩ := a_aq
        have a_alt : w.heap.size < w18.heap.size := (by omega)
        have a_bq := a_b
        obtain ⟨a_b_0, a_b_1, a_b_2, a_b_3, a_b_4, a_b_5, a_b_6, a_b_7⟩ := a_bq
        have a_blt : w.heap.size + 1 < w18.heap.size := (by omega)
        have wbq := wb
        obtain ⟨wb_0, wb_1, wb_2, wb_3, wb_4, wb_5, wb_6, wb_7⟩ := wbq
        have wblt : p_vv < w18.heap.size := (by omega)
        have xb_aq := xb_a
        obtain ⟨xb_a_0, xb_a_1, xb_a_2, xb_a_3, xb_a_4, xb_a_5, xb_a_6, xb_a_7⟩ := xb_aq
        have xb_alt : w6.heap.size < w18.heap.size := (by omega)
        have xb_bq := xb_b
        obtain ⟨xb_b_0, xb_b_1, xb_b_2, xb_b_3, xb_b_4, xb_b_5, xb_b_6, xb_b_7⟩ := xb_bq
        have xb_blt : w8.heap.size < w18.heap.size := (by omega)
        have gbq := gb
        obtain ⟨gb_0, gb_1, gb_2, gb_3, gb_4, gb_5, gb_6, gb_7⟩ := gbq
        have gblt : w10.heap.size < w18.heap.size := (by omega)
        go_wp2_with fail
        clear a_a_0 a_a_1 a_a_2 a_a_3 a_a_4 a_a_5 a_a_6 a_a_7 a_alt
        clear a_b_0 a_b_1 a_b_2 a_b_3 a_b_4 a_b_5 a_b_6 a_b_7 a_blt
        clear wb_0 wb_1 wb_2 wb_3 wb_4 wb_5 wb_6 wb_7 wblt
        clear xb_a_0 xb_a_1 xb_a_2 xb_a_3 xb_a_4 xb_a_5 xb_a_6 xb_a_7 xb_alt
        clear xb_b_0 xb_b_1 xb_b_2 xb_b_3 xb_b_4 xb_b_5 xb_b_6 xb_b_7 xb_blt
        clear gb_0 gb_1 gb_2 gb_3 gb_4 gb_5 gb_6 gb_7 gblt
        refine (Ko_eq_any _ gv vv w18.heap.size _ (Nat.le_refl _) (Qgv.out.trans Qvv.out.symm) (ogv.inn.more (by omega)) (ovv.inn.more (by omega)) (by omega)).mono ?_
        rintro e w19 ⟨rfl, hb19⟩
        have z19 := hb19.size
        have a_a := a_a.below hb19 (by omega)
        have a_b := a_b.below hb19 (by omega)
        have wb := wb.below hb19 (by omega)
        have xb_a := xb_a.below hb19 (by omega)
        have xb_b := xb_b.below hb19 (by omega)
        have gb := gb.below hb19 (by omega)
        have ovv := ovv.below (hb19.mono (by omega))
        have ogv := ogv.below (hb19.mono (by omega))
        have b19 := b18.trans (hb19.mono (by omega))
        have i_a := h_a.below b19
        have i_b := h_b.below b19
        clear hb19
        have a_aq := a_a
        obtain ⟨a_a_0, a_a_1, a_a_2, a_a_3, a_a_4, a_a_5, a_a_6, a_a_7⟩ := a_aq
        have a_alt : w.heap.size < w19.heap.size := (by omega)
        have a_bq := a_b
        obtain ⟨a_b_0, a_b_1, a_b_2, a_b_3, a_b_4, a_b_5, a_b_6, a_b_7⟩ := a_bq
        have a_blt : w.heap.size + 1 < w19.heap.size := (by omega)
        have wbq := wb
        obtain ⟨wb_0, wb_1, wb_2, wb_3, wb_4, wb_5, wb_6, wb_7⟩ := wbq
        have wblt : p_vv < w19.heap.size := (by omega)
        have xb_aq := xb_a
        obtain ⟨xb_a_0, xb_a_1, xb_a_2, xb_a_3, xb_a_4, xb_a_5, xb_a_6, xb_a_7⟩ := xb_aq
        have xb_alt : w6.heap.size < w19.heap.size := (by omega)
        have xb_bq := xb_b
        obtain ⟨xb_b_0, xb_b_1, xb_b_2, xb_b_3, xb_b_4, xb_b_5, xb_b_6, xb_b_7⟩ := xb_bq
        have xb_blt : w8.heap.size < w19.heap.size := (by omega)
        have gbq := gb
        obtain ⟨gb_0, gb_1, gb_2, gb_3, gb_4, gb_5, gb_6, gb_7⟩ := gbq
        have gblt : w10.heap.size < w19.heap.size := (by omega)
        go_wp2_with fail
        clear a_a_0 a_a_1 a_a_2 a_a_3 a_a_4 a_a_5 a_a_6 a_a_7 a_alt
        clear a_b_0 a_b_1 a_b_2 a_b_3 a_b_4 a_b_5 a_b_6 a_b_7 a_blt
        clear wb_0 wb_1 wb_2 wb_3 wb_4 wb_5 wb_6 wb_7 wblt
        clear xb_a_0 xb_a_1 xb_a_2 xb_a_3 xb_a_4 xb_a_5 xb_a_6 xb_a_7 xb_alt
        clear xb_b_0 xb_b_1 xb_b_2 xb_b_3 xb_b_4 xb_b_5 xb_b_6 xb_b_7 xb_blt
        clear gb_0 gb_1 gb_2 gb_3 gb_4 gb_5 gb_6 gb_7 gblt
        refine (Ko_markT_any gv w9.heap.size w10.heap.size _ 1 (by omega) (by omega) (by omega) ogv (by omega)).mono ?_
        rintro e w20 ⟨rfl, gvm, hc20⟩
        have z20 := hc20.size
        have hl20 : ∀ k ∈ Ko.E.blks gv, w9.heap.size ≤ k ∧ k < w10.heap.size := fun k hk => ⟨ogv.lo_ _ hk, ogv.inn.blk_lt _ hk⟩
        have a_a := a_a.chg hc20 (by omega) (fun hm => by have := hl20 _ hm; omega)
        have a_b := a_b.chg hc20 (by omega) (fun hm => by have := hl20 _ hm; omega)
        have wb := wb.chg hc20 (by omega) (fun hm => by have := hl20 _ hm; omega)
        have xb_a := xb_a.chg hc20 (by omega) (fun hm => by have := hl20 _ hm; omega)
        have xb_b := xb_b.chg hc20 (by omega) (fun hm => by have := hl20 _ hm; omega)
        have gb := gb.chg hc20 (by omega) (fun hm => by have := hl20 _ hm; omega)
        have ovv := ovv.keepB (w' := w20) (fun k hk => hc20.block k (by have := ovv.inn.blk_lt _ hk; omega) (fun hm => by have := hl20 _ hm; have := ovv.inn.blk_lt _ hk; have := ovv.lo_ _ hk; omega))
        have b20 : Below w.heap.size w w20 := b19.trans (hc20.below (fun k hk => by have := hl20 _ hk; omega) (by omega))
        have i_a := h_a.below b20
        have i_b := h_b.below b20
        have ogv := gvm
        clear hc20 hl20 gvm
        have a_aq := a_a
        obtain ⟨a_a_0, a_a_1, a_a_2, a_a_3, a_a_4, a_a_5, a_a_6, a_a_7⟩ := a_aq
        have a_alt : w.heap.size < w20.heap.size := (by omega)
        have a_bq := a_b
        obtain ⟨a_b_0, a_b_1, a_b_2, a_b_3, a_b_4, a_b_5, a_b_6, a_b_7⟩ := a_bq
        have a_blt : w.heap.size + 1 < w20.heap.size := (by omega)
        have wbq := wb
        obtain ⟨wb_0, wb_1, wb_2, wb_3, wb_4, wb_5, wb_6, wb_7⟩ := wbq
        have wblt : p_vv < w20.heap.size := (by omega)
        have xb_aq := xb_a
        obtain ⟨xb_a_0, xb_a_1, xb_a_2, xb_a_3, xb_a_4, xb_a_5, xb_a_6, xb_a_7⟩ := xb_aq
        have xb_alt : w6.heap.size < w20.heap.size := (by omega)
        have xb_bq := xb_b
        obtain ⟨xb_b_0, xb_b_1, xb_b_2, xb_b_3, xb_b_4, xb_b_5, xb_b_6, xb_b_7⟩ := xb_bq
        have xb_blt : w8.heap.size < w20.heap.size := (by omega)
        have gbq := gb
        obtain ⟨gb_0, gb_1, gb_2, gb_3, gb_4, gb_5, gb_6, gb_7⟩ := gbq
        have gblt : w10.heap.size < w20.heap.size := (by omega)
        go_wp2_with fail
        clear a_a_0 a_a_1 a_a_2 a_a_3 a_a_4 a_a_5 a_a_6 a_a_7 a_alt
        clear a_b_0 a_b_1 a_b_2 a_b_3 a_b_4 a_b_5 a_b_6 a_b_7 a_blt
        clear wb_0 wb_1 wb_2 wb_3 wb_4 wb_5 wb_6 wb_7 wblt
        clear xb_a_0 xb_a_1 xb_a_2 xb_a_3 xb_a_4 xb_a_5 xb_a_6 xb_a_7 xb_alt
        clear xb_b_0 xb_b_1 xb_b_2 xb_b_3 xb_b_4 xb_b_5 xb_b_6 xb_b_7 xb_blt
        clear gb_0 gb_1 gb_2 gb_3 gb_4 gb_5 gb_6 gb_7 gblt
        refine (Ko_held_any gv w9.heap.size w10.heap.size _ 1 (by omega) (by omega) (by omega) ogv (by omega)).mono ?_
        rintro e w21 ⟨rfl, hb21⟩
        have z21 := hb21.size
        have a_a := a_a.below hb21 (by omega)
        have a_b := a_b.below hb21 (by omega)
        have wb := wb.below hb21 (by omega)
        have xb_a := xb_a.below hb21 (by omega)
        have xb_b := xb_b.below hb21 (by omega)
        have gb := gb.below hb21 (by omega)
        have ovv := ovv.below (hb21.mono (by omega))
        have ogv := ogv.below (hb21.mono (by omega))
        have b21 := b20.trans (hb21.mono (by omega))
        have i_a := h_a.below b21
        have i_b := h_b.below b21
        clear hb21
        have n3 : ¬ (1 + (Tr.kwt gv : Int) < 0) := by omega
        have a_aq := a_a
        obtain ⟨a_a_0, a_a_1, a_a_2, a_a_3, a_a_4, a_a_5, a_a_6, a_a_7⟩ := a_aq
        have a_alt : w.heap.size < w21.heap.size := (by omega)
        have a_bq := a_b
        obtain ⟨a_b_0, a_b_1, a_b_2, a_b_3, a_b_4, a_b_5, a_b_6, a_b_7⟩ := a_bq
        have a_blt : w.heap.size + 1 < w21.heap.size := (by omega)
        have wbq := wb
        obtain ⟨wb_0, wb_1, wb_2, wb_3, wb_4, wb_5, wb_6, wb_7⟩ := wbq
        have wblt : p_vv < w21.heap.size := (by omega)
        have xb_aq := xb_a
        obtain ⟨xb_a_0, xb_a_1, xb_a_2, xb_a_3, xb_a_4, xb_a_5, xb_a_6, xb_a_7⟩ := xb_aq
        have xb_alt : w6.heap.size < w21.heap.size := (by omega)
        have xb_bq := xb_b
        obtain ⟨xb_b_0, xb_b_1, xb_b_2, xb_b_3, xb_b_4, xb_b_5, xb_b_6, xb_b_7⟩ := xb_bq
        have xb_blt : w8.heap.size < w21.heap.size := (by omega)
        have gbq := gb
        obtain ⟨gb_0, gb_1, gb_2, gb_3, gb_4, gb_5, gb_6, gb_7⟩ := gbq
        have gblt : w10.heap.size < w21.heap.size := (by omega)
        go_upto_region 31 with fail
        go_cut [15] (fun s6 wx => Ko.Meets w21 Y s6 wx)
        case first =>
          have tok7 : True := trivial
          have tok8 : True := trivial
          have tok9 : True := trivial
          have r21 : Below w21.heap.size w21 w21 := Below.refl _ _
          go_region_held3 (fun w' => w'.cell? ⟨w.heap.size, 0, none⟩ = some (.int .i64 a.a.k) ∧ w'.cell? ⟨w.heap.size, 1, none⟩ = some (.int .i64 a.a.n) ∧ w'.cell? ⟨w.heap.size, 2, none⟩ = some (.slice a.a.sA a.a.s.length a.a.sC) ∧ w'.cell? ⟨w.heap.size, 3, none⟩ = some (.int .i64 a.a.d.k) ∧ w'.cell? ⟨w.heap.size, 4, none⟩ = some (.int .i64 a.a.d.n) ∧ w'.cell? ⟨w.heap.size, 5, none⟩ = some (.string a.a.d.t) ∧ w'.cell? ⟨w.heap.size, 6, none⟩ = some (.slice a.a.d.A a.a.d.l.length a.a.d.c) ∧ w'.cell? ⟨w.heap.size, 7, none⟩ = some (.slice a.A a.l.length a.c) ∧ w'.cell? ⟨w.heap.size + 1, 0, none⟩ = some (.int .i64 b.a.k) ∧ w'.cell? ⟨w.heap.size + 1, 1, none⟩ = some (.int .i64 b.a.n) ∧ w'.cell? ⟨w.heap.size + 1, 2, none⟩ = some (.slice b.a.sA b.a.s.length b.a.sC) ∧ w'.cell? ⟨w.heap.size + 1, 3, none⟩ = some (.int .i64 b.a.d.k) ∧ w'.cell? ⟨w.heap.size + 1, 4, none⟩ = some (.int .i64 b.a.d.n) ∧ w'.cell? ⟨w.heap.size + 1, 5, none⟩ = some (.string b.a.d.t) ∧ w'.cell? ⟨w.heap.size + 1, 6, none⟩ = some (.slice b.a.d.A b.a.d.l.length b.a.d.c) ∧ w'.cell? ⟨w.heap.size + 1, 7, none⟩ = some (.slice b.A b.l.length b.c)) (go_keep)
            (first
              | (go_simp; go_at_call 14; have _t := tok7; refine gen_worldM ?_; intro Wc hWc; have hbc : Below w21.heap.size w21 Wc := (by first | (rw [hWc]; exact Below.refl _ _) | (rw [hWc]; exact (Below.refl _ _).drew) | (rw [hWc]; exact (Below.refl _ _).alloc (Nat.le_refl _) _) | (rw [hWc]; exact (Below.refl _ _).drew.alloc (Nat.le_refl _) _)); have zc : w21.heap.size ≤ Wc.heap.size := hbc.size; (first | (have KZ := KZ.below hbc KZ.lt; have kzl := KZ.lt) | (have KZ : D.Blk Wc w21.heap.size 35 #[.int .i64 0, .int .i64 0, .slice none 0 0, .int .i64 0, .int .i64 0, .string ⟨#[]⟩, .slice none 0 0, .slice none 0 0] := (by rw [hWc]; exact D.Blk.new _ _ _); have kz0 : w21.heap.size ≤ w21.heap.size := (by omega); have kzl := KZ.lt; have kzn0 : w21.heap.size ≠ w.heap.size := (by omega); have kzm0 : w.heap.size ≠ w21.heap.size := (by omega); have kzn1 : w21.heap.size ≠ w.heap.size + 1 := (by omega); have kzm1 : w.heap.size + 1 ≠ w21.heap.size := (by omega)) | skip); clear hWc; have ovv := ovv.below (hbc.mono (by omega)); have ogv := ogv.below (hbc.mono (by omega)); have bc := b21.trans (hbc.mono (by omega)); have i_a := h_a.below bc; have i_b := h_b.below bc; have hcon := Ko_to_any 2000000 a w.heap.size Wc (by omega) hs_a i_a (by omega); (first | (with_reducible refine hcon.mono ?_) | (simp only [Ko.val] at hcon; with_reducible refine hcon.mono ?_)); clear hcon; rintro e w22 ⟨d4_a, rfl, hed4_a, od4_a, hq22⟩; (first | (have KZ := KZ.below hq22 KZ.lt) | skip); have hb22 : Below w21.heap.size w21 w22 := hbc.trans (hq22.mono zc); have zq22 : Wc.heap.size ≤ w22.heap.size := hq22.size; have z22 : w21.heap.size ≤ w22.heap.size := hb22.size; have r22 : Below w21.heap.size w21 w22 := r21.trans (hb22.mono (by omega)); clear tok7 hbc bc; have ovv := ovv.below (hq22.mono (by omega)); have ogv := ogv.below (hq22.mono (by omega)); have Qd4_a := Lib.hid hed4_a; have sd4_a : d4_a.size ≤ 2000000 := (by rw [Tr.size_of_er _ _ Qd4_a.out]; exact hs_a); have kd4_a : d4_a.bulk Ko.bulk ≤ 1048576 := (by rw [Tr.bulk_of_er (fun _ _ => Ko.bulk_of_er) _ _ Qd4_a.out]; exact hk_a); clear hed4_a; clear a_a_0 a_a_1 a_a_2 a_a_3 a_a_4 a_a_5 a_a_6 a_a_7 a_alt; clear a_b_0 a_b_1 a_b_2 a_b_3 a_b_4 a_b_5 a_b_6 a_b_7 a_blt; clear wb_0 wb_1 wb_2 wb_3 wb_4 wb_5 wb_6 wb_7 wblt; clear xb_a_0 xb_a_1 xb_a_2 xb_a_3 xb_a_4 xb_a_5 xb_a_6 xb_a_7 xb_alt; clear xb_b_0 xb_b_1 xb_b_2 xb_b_3 xb_b_4 xb_b_5 xb_b_6 xb_b_7 xb_blt; clear gb_0 gb_1 gb_2 gb_3 gb_4 gb_5 gb_6 gb_7 gblt; have a_a := a_a.below hb22 (by omega); have a_b := a_b.below hb22 (by omega); have wb := wb.below hb22 (by omega); have xb_a := xb_a.below hb22 (by omega); have xb_b := xb_b.below hb22 (by omega); have gb := gb.below hb22 (by omega); have b22 := b21.trans (hb22.mono (by omega)); have i_a := h_a.below b22; have i_b := h_b.below b22; clear hb22; clear hq22; have a_aq := a_a; obtain ⟨a_a_0, a_a_1, a_a_2, a_a_3, a_a_4, a_a_5, a_a_6, a_a_7⟩ := a_aq; have a_alt : w.heap.size < w22.heap.size := (by omega); have a_bq := a_b; obtain ⟨a_b_0, a_b_1, a_b_2, a_b_3, a_b_4, a_b_5, a_b_6, a_b_7⟩ := a_bq; have a_blt : w.heap.size + 1 < w22.heap.size := (by omega); have wbq := wb; obtain ⟨wb_0, wb_1, wb_2, wb_3, wb_4, wb_5, wb_6, wb_7⟩ := wbq; have wblt : p_vv < w22.heap.size := (by omega); have xb_aq := xb_a; obtain ⟨xb_a_0, xb_a_1, xb_a_2, xb_a_3, xb_a_4, xb_a_5, xb_a_6, xb_a_7⟩ := xb_aq; have xb_alt : w6.heap.size < w22.heap.size := (by omega); have xb_bq := xb_b; obtain ⟨xb_b_0, xb_b_1, xb_b_2, xb_b_3, xb_b_4, xb_b_5, xb_b_6, xb_b_7⟩ := xb_bq; have xb_blt : w8.heap.size < w22.heap.size := (by omega); have gbq := gb; obtain ⟨gb_0, gb_1, gb_2, gb_3, gb_4, gb_5, gb_6, gb_7⟩ := gbq; have gblt : w10.heap.size < w22.heap.size := (by omega))
              | (go_simp; go_at_call 14; have _t := tok8; refine gen_worldM ?_; intro Wc hWc; have hbc : Below w22.heap.size w22 Wc := (by first | (rw [hWc]; exact Below.refl _ _) | (rw [hWc]; exact (Below.refl _ _).drew) | (rw [hWc]; exact (Below.refl _ _).alloc (Nat.le_refl _) _) | (rw [hWc]; exact (Below.refl _ _).drew.alloc (Nat.le_refl _) _)); have zc : w22.heap.size ≤ Wc.heap.size := hbc.size; (first | (have KZ := KZ.below hbc KZ.lt; have kzl := KZ.lt) | (have KZ : D.Blk Wc w22.heap.size 35 #[.int .i64 0, .int .i64 0, .slice none 0 0, .int .i64 0, .int .i64 0, .string ⟨#[]⟩, .slice none 0 0, .slice none 0 0] := (by rw [hWc]; exact D.Blk.new _ _ _); have kz0 : w21.heap.size ≤ w22.heap.size := (by omega); have kzl := KZ.lt; have kzn0 : w22.heap.size ≠ w.heap.size := (by omega); have kzm0 : w.heap.size ≠ w22.heap.size := (by omega); have kzn1 : w22.heap.size ≠ w.heap.size + 1 := (by omega); have kzm1 : w.heap.size + 1 ≠ w22.heap.size := (by omega)) | skip); clear hWc; have ovv := ovv.below (hbc.mono (by omega)); have ogv := ogv.below (hbc.mono (by omega)); have od4_a := od4_a.below (hbc.mono (by omega)); have bc := b22.trans (hbc.mono (by omega)); have i_a := h_a.below bc; have i_b := h_b.below bc; have hcon := Ko_to_any 2000000 b w.heap.size Wc (by omega) hs_b i_b (by omega); (first | (with_reducible refine hcon.mono ?_) | (simp only [Ko.val] at hcon; with_reducible refine hcon.mono ?_)); clear hcon; rintro e w23 ⟨d4_b, rfl, hed4_b, od4_b, hq23⟩; (first | (have KZ := KZ.below hq23 KZ.lt) | skip); have hb23 : Below w22.heap.size w22 w23 := hbc.trans (hq23.mono zc); have zq23 : Wc.heap.size ≤ w23.heap.size := hq23.size; have z23 : w22.heap.size ≤ w23.heap.size := hb23.size; have r23 : Below w21.heap.size w21 w23 := r22.trans (hb23.mono (by omega)); clear tok8 hbc bc; have ovv := ovv.below (hq23.mono (by omega)); have ogv := ogv.below (hq23.mono (by omega)); have od4_a := od4_a.below (hq23.mono (by omega)); have Qd4_b := Lib.hid hed4_b; have sd4_b : d4_b.size ≤ 2000000 := (by rw [Tr.size_of_er _ _ Qd4_b.out]; exact hs_b); have kd4_b : d4_b.bulk Ko.bulk ≤ 1048576 := (by rw [Tr.bulk_of_er (fun _ _ => Ko.bulk_of_er) _ _ Qd4_b.out]; exact hk_b); clear hed4_b; clear a_a_0 a_a_1 a_a_2 a_a_3 a_a_4 a_a_5 a_a_6 a_a_7 a_alt; clear a_b_0 a_b_1 a_b_2 a_b_3 a_b_4 a_b_5 a_b_6 a_b_7 a_blt; clear wb_0 wb_1 wb_2 wb_3 wb_4 wb_5 wb_6 wb_7 wblt; clear xb_a_0 xb_a_1 xb_a_2 xb_a_3 xb_a_4 xb_a_5 xb_a_6 xb_a_7 xb_alt; clear xb_b_0 xb_b_1 xb_b_2 xb_b_3 xb_b_4 xb_b_5 xb_b_6 xb_b_7 xb_blt; clear gb_0 gb_1 gb_2 gb_3 gb_4 gb_5 gb_6 gb_7 gblt; have a_a := a_a.below hb23 (by omega); have a_b := a_b.below hb23 (by omega); have wb := wb.below hb23 (by omega); have xb_a := xb_a.below hb23 (by omega); have xb_b := xb_b.below hb23 (by omega); have gb := gb.below hb23 (by omega); have b23 := b22.trans (hb23.mono (by omega)); have i_a := h_a.below b23; have i_b := h_b.below b23; clear hb23; clear hq23; have a_aq := a_a; obtain ⟨a_a_0, a_a_1, a_a_2, a_a_3, a_a_4, a_a_5, a_a_6, a_a_7⟩ := a_aq; have a_alt : w.heap.size < w23.heap.size := (by omega); have a_bq := a_b; obtain ⟨a_b_0, a_b_1, a_b_2, a_b_3, a_b_4, a_b_5, a_b_6, a_b_7⟩ := a_bq; have a_blt : w.heap.size + 1 < w23.heap.size := (by omega); have wbq := wb; obtain ⟨wb_0, wb_1, wb_2, wb_3, wb_4, wb_5, wb_6, wb_7⟩ := wbq; have wblt : p_vv < w23.heap.size := (by omega); have xb_aq := xb_a; obtain ⟨xb_a_0, xb_a_1, xb_a_2, xb_a_3, xb_a_4, xb_a_5, xb_a_6, xb_a_7⟩ := xb_aq; have xb_alt : w6.heap.size < w23.heap.size := (by omega); have xb_bq := xb_b; obtain ⟨xb_b_0, xb_b_1, xb_b_2, xb_b_3, xb_b_4, xb_b_5, xb_b_6, xb_b_7⟩ := xb_bq; have xb_blt : w8.heap.size < w23.heap.size := (by omega); have gbq := gb; obtain ⟨gb_0, gb_1, gb_2, gb_3, gb_4, gb_5, gb_6, gb_7⟩ := gbq; have gblt : w10.heap.size < w23.heap.size := (by omega))
              | (go_simp; go_at_call 15; have _t := tok9; refine gen_worldM ?_; intro Wc hWc; have hbc : Below w23.heap.size w23 Wc := (by first | (rw [hWc]; exact Below.refl _ _) | (rw [hWc]; exact (Below.refl _ _).drew) | (rw [hWc]; exact (Below.refl _ _).alloc (Nat.le_refl _) _) | (rw [hWc]; exact (Below.refl _ _).drew.alloc (Nat.le_refl _) _)); have zc : w23.heap.size ≤ Wc.heap.size := hbc.size; (first | (have KZ := KZ.below hbc KZ.lt; have kzl := KZ.lt) | (have KZ : D.Blk Wc w23.heap.size 35 #[.int .i64 0, .int .i64 0, .slice none 0 0, .int .i64 0, .int .i64 0, .string ⟨#[]⟩, .slice none 0 0, .slice none 0 0] := (by rw [hWc]; exact D.Blk.new _ _ _); have kz0 : w21.heap.size ≤ w23.heap.size := (by omega); have kzl := KZ.lt; have kzn0 : w23.heap.size ≠ w.heap.size := (by omega); have kzm0 : w.heap.size ≠ w23.heap.size := (by omega); have kzn1 : w23.heap.size ≠ w.heap.size + 1 := (by omega); have kzm1 : w.heap.size + 1 ≠ w23.heap.size := (by omega)) | skip); clear hWc; have ovv := ovv.below (hbc.mono (by omega)); have ogv := ogv.below (hbc.mono (by omega)); have od4_a := od4_a.below (hbc.mono (by omega)); have od4_b := od4_b.below (hbc.mono (by omega)); have bc := b23.trans (hbc.mono (by omega)); have i_a := h_a.below bc; have i_b := h_b.below bc; have hcon := implSubC_c n d4_a d4_b Wc.heap.size Wc Qd4_a.out Qd4_b.out HY.out.symm (od4_a.inn.more (by omega)) (od4_b.inn.more (by omega)) (by omega) hk_a hk_b hwn; (first | (with_reducible refine hcon.mono ?_) | (simp only [Ko.val] at hcon; with_reducible refine hcon.mono ?_)); clear hcon; rintro e w24 ⟨hv, rfl, hehv, ohv, hq24⟩; (first | (have KZ := KZ.below hq24 KZ.lt) | skip); have hb24 : Below w23.heap.size w23 w24 := hbc.trans (hq24.mono zc); have zq24 : Wc.heap.size ≤ w24.heap.size := hq24.size; have z24 : w23.heap.size ≤ w24.heap.size := hb24.size; have r24 : Below w21.heap.size w21 w24 := r23.trans (hb24.mono (by omega)); clear tok9 hbc bc; have ovv := ovv.below (hq24.mono (by omega)); have ogv := ogv.below (hq24.mono (by omega)); have od4_a := od4_a.below (hq24.mono (by omega)); have od4_b := od4_b.below (hq24.mono (by omega)); have Qhv := Lib.hid hehv; have khv : hv.bulk Ko.bulk ≤ 1300000 := (by rw [Tr.bulk_of_er (f := Ko.bulk) (fun _ _ => Ko.bulk_of_er) _ _ (Qhv.out.trans HY.out)]; exact Tr.subC_bulk hk_a); have wk_hv := Tr.kwt_le hv; clear hehv; clear a_a_0 a_a_1 a_a_2 a_a_3 a_a_4 a_a_5 a_a_6 a_a_7 a_alt; clear a_b_0 a_b_1 a_b_2 a_b_3 a_b_4 a_b_5 a_b_6 a_b_7 a_blt; clear wb_0 wb_1 wb_2 wb_3 wb_4 wb_5 wb_6 wb_7 wblt; clear xb_a_0 xb_a_1 xb_a_2 xb_a_3 xb_a_4 xb_a_5 xb_a_6 xb_a_7 xb_alt; clear xb_b_0 xb_b_1 xb_b_2 xb_b_3 xb_b_4 xb_b_5 xb_b_6 xb_b_7 xb_blt; clear gb_0 gb_1 gb_2 gb_3 gb_4 gb_5 gb_6 gb_7 gblt; have a_a := a_a.below hb24 (by omega); have a_b := a_b.below hb24 (by omega); have wb := wb.below hb24 (by omega); have xb_a := xb_a.below hb24 (by omega); have xb_b := xb_b.below hb24 (by omega); have gb := gb.below hb24 (by omega); have b24 := b23.trans (hb24.mono (by omega)); have i_a := h_a.below b24; have i_b := h_b.below b24; clear hb24; simp only [Ko.val]; clear hq24; (first | (have d0 : World.cell? _ ⟨_, 0, none⟩ = some (.int .i64 0) := KZ.cell 0; have f0 := KZ.frozen 0; have d1 : World.cell? _ ⟨_, 1, none⟩ = some (.int .i64 0) := KZ.cell 1; have f1 := KZ.frozen 1; have d2 : World.cell? _ ⟨_, 2, none⟩ = some (.slice none 0 0) := KZ.cell 2; have f2 := KZ.frozen 2; have d3 : World.cell? _ ⟨_, 3, none⟩ = some (.int .i64 0) := KZ.cell 3; have f3 := KZ.frozen 3; have d4 : World.cell? _ ⟨_, 4, none⟩ = some (.int .i64 0) := KZ.cell 4; have f4 := KZ.frozen 4; have d5 : World.cell? _ ⟨_, 5, none⟩ = some (.string ⟨#[]⟩) := KZ.cell 5; have f5 := KZ.frozen 5; have d6 : World.cell? _ ⟨_, 6, none⟩ = some (.slice none 0 0) := KZ.cell 6; have f6 := KZ.frozen 6; have d7 : World.cell? _ ⟨_, 7, none⟩ = some (.slice none 0 0) := KZ.cell 7; have f7 := KZ.frozen 7; have kzlt := KZ.lt) | skip); have a_aq := a_a; obtain ⟨a_a_0, a_a_1, a_a_2, a_a_3, a_a_4, a_a_5, a_a_6, a_a_7⟩ := a_aq; have a_alt : w.heap.size < w24.heap.size := (by omega); have a_bq := a_b; obtain ⟨a_b_0, a_b_1, a_b_2, a_b_3, a_b_4, a_b_5, a_b_6, a_b_7⟩ := a_bq; have a_blt : w.heap.size + 1 < w24.heap.size := (by omega); have wbq := wb; obtain ⟨wb_0, wb_1, wb_2, wb_3, wb_4, wb_5, wb_6, wb_7⟩ := wbq; have wblt : p_vv < w24.heap.size := (by omega); have xb_aq := xb_a; obtain ⟨xb_a_0, xb_a_1, xb_a_2, xb_a_3, xb_a_4, xb_a_5, xb_a_6, xb_a_7⟩ := xb_aq; have xb_alt : w6.heap.size < w24.heap.size := (by omega); have xb_bq := xb_b; obtain ⟨xb_b_0, xb_b_1, xb_b_2, xb_b_3, xb_b_4, xb_b_5, xb_b_6, xb_b_7⟩ := xb_bq; have xb_blt : w8.heap.size < w24.heap.size := (by omega); have gbq := gb; obtain ⟨gb_0, gb_1, gb_2, gb_3, gb_4, gb_5, gb_6, gb_7⟩ := gbq; have gblt : w10.heap.size < w24.heap.size := (by omega))
              | fail)
          all_goals (go_wp2_with fail; go_meet; first
            | ((with_reducible refine Ko.Meets.new r24 Qhv ohv ?_ ?_) <;> omega)
            | ((with_reducible refine Ko.Meets.put r24 Qhv ohv ?_ ?_ ?_ KZ ?_) <;> first | omega | exact rfl))
        case rest =>
          clear a_a_0 a_a_1 a_a_2 a_a_3 a_a_4 a_a_5 a_a_6 a_a_7 a_alt
          clear a_b_0 a_b_1 a_b_2 a_b_3 a_b_4 a_b_5 a_b_6 a_b_7 a_blt
          clear wb_0 wb_1 wb_2 wb_3 wb_4 wb_5 wb_6 wb_7 wblt
          clear xb_a_0 xb_a_1 xb_a_2 xb_a_3 xb_a_4 xb_a_5 xb_a_6 xb_a_7 xb_alt
          clear xb_b_0 xb_b_1 xb_b_2 xb_b_3 xb_b_4 xb_b_5 xb_b_6 xb_b_7 xb_blt
          clear gb_0 gb_1 gb_2 gb_3 gb_4 gb_5 gb_6 gb_7 gblt
          obtain ⟨w22, rfl⟩ : ∃ W, W = wc := ⟨_, rfl⟩
          obtain ⟨p_hv, hv, rfl, hbx, Qhv, ohv, plhv, phhv, hb22⟩ := hcut
          have khv : hv.bulk Ko.bulk ≤ 1300000 := (by rw [Tr.bulk_of_er (f := Ko.bulk) (fun _ _ => Ko.bulk_of_er) _ _ (Qhv.out.trans HY.out)]; exact Tr.subC_bulk hk_a)
          have wk_hv := Tr.kwt_le hv
          have z22 : w21.heap.size ≤ w22.heap.size := hb22.size
          have a_a := a_a.below hb22 (by omega)
          have a_b := a_b.below hb22 (by omega)
          have wb := wb.below hb22 (by omega)
          have xb_a := xb_a.below hb22 (by omega)
          have xb_b := xb_b.below hb22 (by omega)
          have gb := gb.below hb22 (by omega)
          have ovv := ovv.below (hb22.mono (by omega))
          have ogv := ogv.below (hb22.mono (by omega))
          have b22 := b21.trans (hb22.mono (by omega))
          have i_a := h_a.below b22
          have i_b := h_b.below b22
          clear hb22
          have a_aq := a_a
          obtain ⟨a_a_0, a_a_1, a_a_2, a_a_3, a_a_4, a_a_5, a_a_6, a_a_7⟩ := a_aq
          have a_alt : w.heap.size < w22.heap.size := (by omega)
          have a_bq := a_b
          obtain ⟨a_b_0, a_b_1, a_b_2, a_b_3, a_b_4, a_b_5, a_b_6, a_b_7⟩ := a_bq
          have a_blt : w.heap.size + 1 < w22.heap.size := (by omega)
          have wbq := wb
          obtain ⟨wb_0, wb_1, wb_2, wb_3, wb_4, wb_5, wb_6, wb_7⟩ := wbq
          have wblt : p_vv < w22.heap.size := (by omega)
          have xb_aq := xb_a
          obtain ⟨xb_a_0, xb_a_1, xb_a_2, xb_a_3, xb_a_4, xb_a_5, xb_a_6, xb_a_7⟩ := xb_aq
          have xb_alt : w6.heap.size < w22.heap.size := (by omega)
          have xb_bq := xb_b
          obtain ⟨xb_b_0, xb_b_1, xb_b_2, xb_b_3, xb_b_4, xb_b_5, xb_b_6, xb_b_7⟩ := xb_bq
          have xb_blt : w8.heap.size < w22.heap.size := (by omega)
          have gbq := gb
          obtain ⟨gb_0, gb_1, gb_2, gb_3, gb_4, gb_5, gb_6, gb_7⟩ := gbq
          have gblt : w10.heap.size < w22.heap.size := (by omega)
          have hbxq := hbx
          obtain ⟨hbx_0, hbx_1, hbx_2, hbx_3, hbx_4, hbx_5, hbx_6, hbx_7⟩ := hbxq
          have hbxlt : p_hv < w22.heap.size := (by omega)
          go_wp2_with fail
          clear a_a_0 a_a_1 a_a_2 a_a_3 a_a_4 a_a_5 a_a_6 a_a_7 a_alt
          clear a_b_0 a_b_1 a_b_2 a_b_3 a_b_4 a_b_5 a_b_6 a_b_7 a_blt
          clear wb_0 wb_1 wb_2 wb_3 wb_4 wb_5 wb_6 wb_7 wblt
          clear xb_a_0 xb_a_1 xb_a_2 xb_a_3 xb_a_4 xb_a_5 xb_a_6 xb_a_7 xb_alt
          clear xb_b_0 xb_b_1 xb_b_2 xb_b_3 xb_b_4 xb_b_5 xb_b_6 xb_b_7 xb_blt
          clear gb_0 gb_1 gb_2 gb_3 gb_4 gb_5 gb_6 gb_7 gblt
          clear hbx_0 hbx_1 hbx_2 hbx_3 hbx_4 hbx_5 hbx_6 hbx_7 hbxlt
          refine (Ko_eq_any _ hv vv w22.heap.size _ (Nat.le_refl _) (Qhv.out.trans Qvv.out.symm) (ohv.inn.more (by omega)) (ovv.inn.more (by omega)) (by omega)).mono ?_
          rintro e w23 ⟨rfl, hb23⟩
          have z23 := hb23.size
          have a_a := a_a.below hb23 (by omega)
          have a_b := a_b.below hb23 (by omega)
          have wb := wb.below hb23 (by omega)
          have xb_a := xb_a.below hb23 (by omega)
          have xb_b := xb_b.below hb23 (by omega)
          have gb := gb.below hb23 (by omega)
          have hbx := hbx.below hb23 (by omega)
          have ovv := ovv.below (hb23.mono (by omega))
          have ogv := ogv.below (hb23.mono (by omega))
          have ohv := ohv.below (hb23.mono (by omega))
          have b23 := b22.trans (hb23.mono (by omega))
          have i_a := h_a.below b23
          have i_b := h_b.below b23
          clear hb23
          have a_aq := a_a
          obtain ⟨a_a_0, a_a_1, a_a_2, a_a_3, a_a_4, a_a_5, a_a_6, a_a_7⟩ := a_aq
          have a_alt : w.heap.size < w23.heap.size := (by omega)
          have a_bq := a_b
          obtain ⟨a_b_0, a_b_1, a_b_2, a_b_3, a_b_4, a_b_5, a_b_6, a_b_7⟩ := a_bq
          have a_blt : w.heap.size + 1 < w23.heap.size := (by omega)
          have wbq := wb
          obtain ⟨wb_0, wb_1, wb_2, wb_3, wb_4, wb_5, wb_6, wb_7⟩ := wbq
          have wblt : p_vv < w23.heap.size := (by omega)
          have xb_aq := xb_a
          obtain ⟨xb_a_0, xb_a_1, xb_a_2, xb_a_3, xb_a_4, xb_a_5, xb_a_6, xb_a_7⟩ := xb_aq
          have xb_alt : w6.heap.size < w23.heap.size := (by omega)
          have xb_bq := xb_b
          obtain ⟨xb_b_0, xb_b_1, xb_b_2, xb_b_3, xb_b_4, xb_b_5, xb_b_6, xb_b_7⟩ := xb_bq
          have xb_blt : w8.heap.size < w23.heap.size := (by omega)
          have gbq := gb
          obtain ⟨gb_0, gb_1, gb_2, gb_3, gb_4, gb_5, gb_6, gb_7⟩ := gbq
          have gblt : w10.heap.size < w23.heap.size := (by omega)
          have hbxq := hbx
          obtain ⟨hbx_0, hbx_1, hbx_2, hbx_3, hbx_4, hbx_5, hbx_6, hbx_7⟩ := hbxq
          have hbxlt : p_hv < w23.heap.size := (by omega)
          go_wp2_with fail
          clear a_a_0 a_a_1 a_a_2 a_a_3 a_a_4 a_a_5 a_a_6 a_a_7 a_alt
          clear a_b_0 a_b_1 a_b_2 a_b_3 a_b_4 a_b_5 a_b_6 a_b_7 a_blt
          clear wb_0 wb_1 wb_2 wb_3 wb_4 wb_5 wb_6 wb_7 wblt
          clear xb_a_0 xb_a_1 xb_a_2 xb_a_3 xb_a_4 xb_a_5 xb_a_6 xb_a_7 xb_alt
          clear xb_b_0 xb_b_1 xb_b_2 xb_b_3 xb_b_4 xb_b_5 xb_b_6 xb_b_7 xb_blt
          clear gb_0 gb_1 gb_2 gb_3 gb_4 gb_5 gb_6 gb_7 gblt
          clear hbx_0 hbx_1 hbx_2 hbx_3 hbx_4 hbx_5 hbx_6 hbx_7 hbxlt
          refine (Ko_held_any gv w9.heap.size w10.heap.size _ 1 (by omega) (by omega) (by omega) ogv (by omega)).mono ?_
          rintro e w24 ⟨rfl, hb24⟩
          have z24 := hb24.size
          have a_a := a_a.below hb24 (by omega)
          have a_b := a_b.below hb24 (by omega)
          have wb := wb.below hb24 (by omega)
          have xb_a := xb_a.below hb24 (by omega)
          have xb_b := xb_b.below hb24 (by omega)
          have gb := gb.below hb24 (by omega)
          have hbx := hbx.below hb24 (by omega)
          have ovv := ovv.below (hb24.mono (by omega))
          have ogv := ogv.below (hb24.mono (by omega))
          have ohv := ohv.below (hb24.mono (by omega))
          have b24 := b23.trans (hb24.mono (by omega))
          have i_a := h_a.below b24
          have i_b := h_b.below b24
          clear hb24
          have a_aq := a_a
          obtain ⟨a_a_0, a_a_1, a_a_2, a_a_3, a_a_4, a_a_5, a_a_6, a_a_7⟩ := a_aq
          have a_alt : w.heap.size < w24.heap.size := (by omega)
          have a_bq := a_b
          obtain ⟨a_b_0, a_b_1, a_b_2, a_b_3, a_b_4, a_b_5, a_b_6, a_b_7⟩ := a_bq
          have a_blt : w.heap.size + 1 < w24.heap.size := (by omega)
          have wbq := wb
          obtain ⟨wb_0, wb_1, wb_2, wb_3, wb_4, wb_5, wb_6, wb_7⟩ := wbq
          have wblt : p_vv < w24.heap.size := (by omega)
          have xb_aq := xb_a
          obtain ⟨xb_a_0, xb_a_1, xb_a_2, xb_a_3, xb_a_4, xb_a_5, xb_a_6, xb_a_7⟩ := xb_aq
          have xb_alt : w6.heap.size < w24.heap.size := (by omega)
          have xb_bq := xb_b
          obtain ⟨xb_b_0, xb_b_1, xb_b_2, xb_b_3, xb_b_4, xb_b_5, xb_b_6, xb_b_7⟩ := xb_bq
          have xb_blt : w8.heap.size < w24.heap.size := (by omega)
          have gbq := gb
          obtain ⟨gb_0, gb_1, gb_2, gb_3, gb_4, gb_5, gb_6, gb_7⟩ := gbq
          have gblt : w10.heap.size < w24.heap.size := (by omega)
          have hbxq := hbx
          obtain ⟨hbx_0, hbx_1, hbx_2, hbx_3, hbx_4, hbx_5, hbx_6, hbx_7⟩ := hbxq
          have hbxlt : p_hv < w24.heap.size := (by omega)
          go_wp2_with fail
          clear a_a_0 a_a_1 a_a_2 a_a_3 a_a_4 a_a_5 a_a_6 a_a_7 a_alt
          clear a_b_0 a_b_1 a_b_2 a_b_3 a_b_4 a_b_5 a_b_6 a_b_7 a_blt
          clear wb_0 wb_1 wb_2 wb_3 wb_4 wb_5 wb_6 wb_7 wblt
          clear xb_a_0 xb_a_1 xb_a_2 xb_a_3 xb_a_4 xb_a_5 xb_a_6 xb_a_7 xb_alt
          clear xb_b_0 xb_b_1 xb_b_2 xb_b_3 xb_b_4 xb_b_5 xb_b_6 xb_b_7 xb_blt
          clear gb_0 gb_1 gb_2 gb_3 gb_4 gb_5 gb_6 gb_7 gblt
          clear hbx_0 hbx_1 hbx_2 hbx_3 hbx_4 hbx_5 hbx_6 hbx_7 hbxlt
          go_ret
          exact ⟨rfl, b24⟩
    · have b0 : Below w.heap.size w w := Below.refl _ _
      have i_a := h_a
      have i_b := h_b
      go_enter Tryz.func3, Tryz.ntmps3
      go_wp2_with fail
      obtain ⟨w1, hw1⟩ : ∃ W, W = w.alloc (.cells #[.int .i64 a.a.k, .int .i64 a.a.n, .slice a.a.sA a.a.s.length a.a.sC, .int .i64 a.a.d.k, .int .i64 a.a.d.n, .string a.a.d.t, .slice a.a.d.A a.a.d.l.length a.a.d.c, .slice a.A a.l.length a.c] 28) := ⟨_, rfl⟩
      rw [← hw1]
      have hb1 : Below w.heap.size w w1 := by rw [hw1]; exact (Below.refl _ _).alloc (Nat.le_refl _) _
      have z1 : w.heap.size + 1 ≤ w1.heap.size := by rw [hw1]; simp
      have y1 : w1.heap.size ≤ w.heap.size + 1 := by rw [hw1]; simp
      have a_a : Ko.Box w1 w.heap.size a := by rw [hw1]; exact Ko.Box.new _ _ _
      clear hw1
      have b1 := b0.trans (hb1.mono (by omega))
      have i_a := h_a.below b1
      have i_b := h_b.below b1
      clear hb1
      obtain ⟨w2, hw2⟩ : ∃ W, W = w1.alloc (.cells #[.int .i64 b.a.k, .int .i64 b.a.n, .slice b.a.sA b.a.s.length b.a.sC, .int .i64 b.a.d.k, .int .i64 b.a.d.n, .string b.a.d.t, .slice b.a.d.A b.a.d.l.length b.a.d.c, .slice b.A b.l.length b.c] 28) := ⟨_, rfl⟩
      rw [← hw2]
      have hb2 : Below w1.heap.size w1 w2 := by rw [hw2]; exact (Below.refl _ _).alloc (Nat.le_refl _) _
      have z2 : w1.heap.size + 1 ≤ w2.heap.size := by rw [hw2]; simp
      have y2 : w2.heap.size ≤ w1.heap.size + 1 := by rw [hw2]; simp
      have a_b : Ko.Box w2 w1.heap.size b := by rw [hw2]; exact Ko.Box.new _ _ _
      clear hw2
      have a_a := a_a.below hb2 (by omega)
      have b2 := b1.trans (hb2.mono (by omega))
      have i_a := h_a.below b2
      have i_b := h_b.below b2
      clear hb2
      have e_a_b : w1.heap.size = w.heap.size + 1 := by omega
      rw [e_a_b] at a_b
      clear e_a_b
      refine (Ko_sz_any 2000000 a w.heap.size _ 1048576 hs_a (by omega) (by omega) i_a (by omega)).mono ?_
      rintro e w3 ⟨rfl, hb3⟩
      have z3 := hb3.size
      have a_a := a_a.below hb3 (by omega)
      have a_b := a_b.below hb3 (by omega)
      have b3 := b2.trans (hb3.mono (by omega))
      have i_a := h_a.below b3
      have i_b := h_b.below b3
      clear hb3
      rw [szR_yes (by omega)]
      have n1_a : ¬ (1048576 - (a.bulk Ko.bulk : Int) < 0) := by omega
      have a_aq := a_a
      obtain ⟨a_a_0, a_a_1, a_a_2, a_a_3, a_a_4, a_a_5, a_a_6, a_a_7⟩ := a_aq
      have a_alt : w.heap.size < w3.heap.size := (by omega)
      have a_bq := a_b
      obtain ⟨a_b_0, a_b_1, a_b_2, a_b_3, a_b_4, a_b_5, a_b_6, a_b_7⟩ := a_bq
      have a_blt : w.heap.size + 1 < w3.heap.size := (by omega)
      go_wp2_with fail
      clear a_a_0 a_a_1 a_a_2 a_a_3 a_a_4 a_a_5 a_a_6 a_a_7 a_alt
      clear a_b_0 a_b_1 a_b_2 a_b_3 a_b_4 a_b_5 a_b_6 a_b_7 a_blt
      refine (Ko_sz_any (b.size + 1) b w.heap.size _ (1048576 - (a.bulk Ko.bulk : Int)) (by omega) (by omega) (by omega) i_b (by omega)).mono ?_
      rintro e w4 ⟨rfl, hb4⟩
      have z4 := hb4.size
      have a_a := a_a.below hb4 (by omega)
      have a_b := a_b.below hb4 (by omega)
      have b4 := b3.trans (hb4.mono (by omega))
      have i_a := h_a.below b4
      have i_b := h_b.below b4
      clear hb4
      rw [szR_no (by omega)]
      have a_aq := a_a
      obtain ⟨a_a_0, a_a_1, a_a_2, a_a_3, a_a_4, a_a_5, a_a_6, a_a_7⟩ := a_aq
      have a_alt : w.heap.size < w4.heap.size := (by omega)
      have a_bq := a_b
      obtain ⟨a_b_0, a_b_1, a_b_2, a_b_3, a_b_4, a_b_5, a_b_6, a_b_7⟩ := a_bq
      have a_blt : w.heap.size + 1 < w4.heap.size := (by omega)
      go_wp2_with fail
      clear a_a_0 a_a_1 a_a_2 a_a_3 a_a_4 a_a_5 a_a_6 a_a_7 a_alt
      clear a_b_0 a_b_1 a_b_2 a_b_3 a_b_4 a_b_5 a_b_6 a_b_7 a_blt
      go_ret
      exact ⟨rfl, b4⟩
  · have b0 : Below w.heap.size w w := Below.refl _ _
    have i_a := h_a
    have i_b := h_b
    go_enter Tryz.func3, Tryz.ntmps3
    go_wp2_with fail
    obtain ⟨w1, hw1⟩ : ∃ W, W = w.alloc (.cells #[.int .i64 a.a.k, .int .i64 a.a.n, .slice a.a.sA a.a.s.length a.a.sC, .int .i64 a.a.d.k, .int .i64 a.a.d.n, .string a.a.d.t, .slice a.a.d.A a.a.d.l.length a.a.d.c, .slice a.A a.l.length a.c] 28) := ⟨_, rfl⟩
    rw [← hw1]
    have hb1 : Below w.heap.size w w1 := by rw [hw1]; exact (Below.refl _ _).alloc (Nat.le_refl _) _
    have z1 : w.heap.size + 1 ≤ w1.heap.size := by rw [hw1]; simp
    have y1 : w1.heap.size ≤ w.heap.size + 1 := by rw [hw1]; simp
    have a_a : Ko.Box w1 w.heap.size a := by rw [hw1]; exact Ko.Box.new _ _ _
    clear hw1
    have b1 := b0.trans (hb1.mono (by omega))
    have i_a := h_a.below b1
    have i_b := h_b.below b1
    clear hb1
    obtain ⟨w2, hw2⟩ : ∃ W, W = w1.alloc (.cells #[.int .i64 b.a.k, .int .i64 b.a.n, .slice b.a.sA b.a.s.length b.a.sC, .int .i64 b.a.d.k, .int .i64 b.a.d.n, .string b.a.d.t, .slice b.a.d.A b.a.d.l.length b.a.d.c, .slice b.A b.l.length b.c] 28) := ⟨_, rfl⟩
    rw [← hw2]
    have hb2 : Below w1.heap.size w1 w2 := by rw [hw2]; exact (Below.refl _ _).alloc (Nat.le_refl _) _
    have z2 : w1.heap.size + 1 ≤ w2.heap.size := by rw [hw2]; simp
    have y2 : w2.heap.size ≤ w1.heap.size + 1 := by rw [hw2]; simp
    have a_b : Ko.Box w2 w1.heap.size b := by rw [hw2]; exact Ko.Box.new _ _ _
    clear hw2
    have a_a := a_a.below hb2 (by omega)
    have b2 := b1.trans (hb2.mono (by omega))
    have i_a := h_a.below b2
    have i_b := h_b.below b2
    clear hb2
    have e_a_b : w1.heap.size = w.heap.size + 1 := by omega
    rw [e_a_b] at a_b
    clear e_a_b
    refine (Ko_sz_any (a.size + 1) a w.heap.size _ 1048576 (by omega) (by omega) (by omega) i_a (by omega)).mono ?_
    rintro e w3 ⟨rfl, hb3⟩
    have z3 := hb3.size
    have a_a := a_a.below hb3 (by omega)
    have a_b := a_b.below hb3 (by omega)
    have b3 := b2.trans (hb3.mono (by omega))
    have i_a := h_a.below b3
    have i_b := h_b.below b3
    clear hb3
    rw [szR_no (by omega)]
    have a_aq := a_a
    obtain ⟨a_a_0, a_a_1, a_a_2, a_a_3, a_a_4, a_a_5, a_a_6, a_a_7⟩ := a_aq
    have a_alt : w.heap.size < w3.heap.size := (by omega)
    have a_bq := a_b
    obtain ⟨a_b_0, a_b_1, a_b_2, a_b_3, a_b_4, a_b_5, a_b_6, a_b_7⟩ := a_bq
    have a_blt : w.heap.size + 1 < w3.heap.size := (by omega)
    go_wp2_with fail
    clear a_a_0 a_a_1 a_a_2 a_a_3 a_a_4 a_a_5 a_a_6 a_a_7 a_alt
    clear a_b_0 a_b_1 a_b_2 a_b_3 a_b_4 a_b_5 a_b_6 a_b_7 a_blt
    go_ret
    exact ⟨rfl, b3⟩
end Go.Proofs.YtnkdfphbglcnmaaGreat
