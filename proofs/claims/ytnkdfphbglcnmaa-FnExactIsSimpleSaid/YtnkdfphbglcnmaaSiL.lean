/-
  The law on IsSimple, walked.
-/
import Derived.Test.YtnkdfphbglcnmaaSiB
import Derived.Test.YtnkdfphbglcnmaaKoC
import Derived.Test.YtnkdfphbglcnmaaKoCopy
import Derived.Test.YtnkdfphbglcnmaaIntE
import Derived.Deep.RegionHeld3
namespace Go.Proofs.Ytnkdfphbglcnmaa
open Go.RowKit

set_option maxRecDepth 100000 in
set_option maxHeartbeats 4000000 in
theorem law_si (a : Tr Ko) (A_g : Option Addr) (c_g : Nat) (g : List Int) (w : World) (h_a : Ko.E.In w w.heap.size a) (h_g : IIn w w.heap.size A_g c_g g) (h_wf : ∀ i ∈ g, (Lit.int .i64 i).wf = true) : Calls Try.prog 3 #[Ko.val a, .slice A_g g.length c_g] w fun e w' => e = .returned (.bool true) ∧ Below w.heap.size w w' := by
  unfold Ko.val
  have capg := h_g.cap
  by_cases hlg : g.length ≤ 1048576
  · have gg : ¬ ((g.length : Int) > 1048576) := by omega
    by_cases hz_a : (a.bulk Ko.bulk : Int) ≤ 1048576
    · have hs_a : a.size ≤ 2000000 := by have := Tr.size_le_bulk Ko.bulk a; omega
      have hk_a : a.bulk Ko.bulk ≤ 1048576 := by omega
      obtain ⟨X, hX⟩ : ∃ X, X = a.simple g := ⟨_, rfl⟩
      have HX := Lib.hid hX.symm
      clear hX
      have nq : (X != X) = false := by simp
      have b0 : Below w.heap.size w w := Below.refl _ _
      have i_a := h_a
      have i_g := h_g
      go_enter Try.func3, Try.ntmps3
      go_wp2_with fail
      obtain ⟨w1, hw1⟩ : ∃ W, W = w.alloc (.cells #[.int .i64 a.a.k, .int .i64 a.a.n, .slice a.a.sA a.a.s.length a.a.sC, .int .i64 a.a.d.k, .int .i64 a.a.d.n, .string a.a.d.t, .slice a.a.d.A a.a.d.l.length a.a.d.c, .slice a.A a.l.length a.c] 28) := ⟨_, rfl⟩
      rw [← hw1]
      have hb1 : Below w.heap.size w w1 := by rw [hw1]; exact (Below.refl _ _).alloc (Nat.le_refl _) _
      have z1 : w.heap.size + 1 ≤ w1.heap.size := by rw [hw1]; simp
      have y1 : w1.heap.size ≤ w.heap.size + 1 := by rw [hw1]; simp
      have a_a : Ko.Box w1 w.heap.size a := by rw [hw1]; exact Ko.Box.new _ _ _
      clear hw1
      have b1 := b0.trans (hb1.mono (by omega))
      have i_a := h_a.below b1
      have i_g := h_g.below b1
      clear hb1
      refine (Ko_sz_any 2000000 a w.heap.size _ 1048576 hs_a (by omega) (by omega) i_a (by omega)).mono ?_
      rintro e w2 ⟨rfl, hb2⟩
      have z2 := hb2.size
      have a_a := a_a.below hb2 (by omega)
      have b2 := b1.trans (hb2.mono (by omega))
      have i_a := h_a.below b2
      have i_g := h_g.below b2
      clear hb2
      rw [szR_yes (by omega)]
      have n1_a : ¬ (1048576 - (a.bulk Ko.bulk : Int) < 0) := by omega
      have a_aq := a_a
      obtain ⟨a_a_0, a_a_1, a_a_2, a_a_3, a_a_4, a_a_5, a_a_6, a_a_7⟩ := a_aq
      have a_alt : w.heap.size < w2.heap.size := (by omega)
      go_wp2_with fail
      clear a_a_0 a_a_1 a_a_2 a_a_3 a_a_4 a_a_5 a_a_6 a_a_7 a_alt
      refine (Ko_to_any 2000000 a w.heap.size _ (by omega) hs_a i_a (by omega)).mono ?_
      rintro e w3 ⟨d1, rfl, hed1, od1, hb3⟩
      have z3 := hb3.size
      have a_a := a_a.below hb3 (by omega)
      have b3 := b2.trans (hb3.mono (by omega))
      have i_a := h_a.below b3
      have i_g := h_g.below b3
      clear hb3
      have Qd1 := Lib.hid hed1
      have sd1 : d1.size ≤ 2000000 := (by rw [Tr.size_of_er _ _ Qd1.out]; exact hs_a)
      have kd1 : d1.bulk Ko.bulk ≤ 1048576 := (by rw [Tr.bulk_of_er (fun _ _ => Ko.bulk_of_er) _ _ Qd1.out]; exact hk_a)
      clear hed1
      have a_aq := a_a
      obtain ⟨a_a_0, a_a_1, a_a_2, a_a_3, a_a_4, a_a_5, a_a_6, a_a_7⟩ := a_aq
      have a_alt : w.heap.size < w3.heap.size := (by omega)
      go_wp2_with fail
      clear a_a_0 a_a_1 a_a_2 a_a_3 a_a_4 a_a_5 a_a_6 a_a_7 a_alt
      refine (toI_any A_g c_g g w.heap.size _ (by omega) i_g (by omega)).mono ?_
      rintro e w4 ⟨d2A, d2c, rfl, od2, hb4⟩
      have z4 := hb4.size
      have a_a := a_a.below hb4 (by omega)
      have od1 := od1.below (hb4.mono (by omega))
      have b4 := b3.trans (hb4.mono (by omega))
      have i_a := h_a.below b4
      have i_g := h_g.below b4
      clear hb4
      have a_aq := a_a
      obtain ⟨a_a_0, a_a_1, a_a_2, a_a_3, a_a_4, a_a_5, a_a_6, a_a_7⟩ := a_aq
      have a_alt : w.heap.size < w4.heap.size := (by omega)
      go_wp2_with fail
      clear a_a_0 a_a_1 a_a_2 a_a_3 a_a_4 a_a_5 a_a_6 a_a_7 a_alt
      refine (specIsS_any d1 d2A d2c g w4.heap.size _ (od1.inn.more (by omega)) (od2.inn.more (by omega)) (by omega) (by omega)).mono ?_
      rintro e w5 ⟨rfl, hb5⟩
      have z5 := hb5.size
      have a_a := a_a.below hb5 (by omega)
      have od1 := od1.below (hb5.mono (by omega))
      have od2 := od2.below (hb5.mono (by omega))
      have b5 := b4.trans (hb5.mono (by omega))
      have i_a := h_a.below b5
      have i_g := h_g.below b5
      clear hb5
      rw [show d1.simple g = X from (Tr.simple_er Qd1.out g).trans HX.out]
      clear od1
      clear od2
      have a_aq := a_a
      obtain ⟨a_a_0, a_a_1, a_a_2, a_a_3, a_a_4, a_a_5, a_a_6, a_a_7⟩ := a_aq
      have a_alt : w.heap.size < w5.heap.size := (by omega)
      go_wp2_with fail
      clear a_a_0 a_a_1 a_a_2 a_a_3 a_a_4 a_a_5 a_a_6 a_a_7 a_alt
      refine (Ko_to_any 2000000 a w.heap.size _ (by omega) hs_a i_a (by omega)).mono ?_
      rintro e w6 ⟨x1, rfl, hex1, ox1, hb6⟩
      have z6 := hb6.size
      have a_a := a_a.below hb6 (by omega)
      have b6 := b5.trans (hb6.mono (by omega))
      have i_a := h_a.below b6
      have i_g := h_g.below b6
      clear hb6
      have Qx1 := Lib.hid hex1
      have sx1 : x1.size ≤ 2000000 := (by rw [Tr.size_of_er _ _ Qx1.out]; exact hs_a)
      have kx1 : x1.bulk Ko.bulk ≤ 1048576 := (by rw [Tr.bulk_of_er (fun _ _ => Ko.bulk_of_er) _ _ Qx1.out]; exact hk_a)
      clear hex1
      simp only [Ko.val]
      have a_aq := a_a
      obtain ⟨a_a_0, a_a_1, a_a_2, a_a_3, a_a_4, a_a_5, a_a_6, a_a_7⟩ := a_aq
      have a_alt : w.heap.size < w6.heap.size := (by omega)
      go_wp2_with fail
      clear a_a_0 a_a_1 a_a_2 a_a_3 a_a_4 a_a_5 a_a_6 a_a_7 a_alt
      obtain ⟨w7, hw7⟩ : ∃ W, W = w6.alloc (.cells #[.int .i64 x1.a.k, .int .i64 x1.a.n, .slice x1.a.sA x1.a.s.length x1.a.sC, .int .i64 x1.a.d.k, .int .i64 x1.a.d.n, .string x1.a.d.t, .slice x1.a.d.A x1.a.d.l.length x1.a.d.c, .slice x1.A x1.l.length x1.c] 36) := ⟨_, rfl⟩
      rw [← hw7]
      have hb7 : Below w6.heap.size w6 w7 := by rw [hw7]; exact (Below.refl _ _).alloc (Nat.le_refl _) _
      have z7 : w6.heap.size + 1 ≤ w7.heap.size := by rw [hw7]; simp
      have y7 : w7.heap.size ≤ w6.heap.size + 1 := by rw [hw7]; simp
      have xb_a : Ko.Box w7 w6.heap.size x1 := by rw [hw7]; exact Ko.Box.new _ _ _
      clear hw7
      have a_a := a_a.below hb7 (by omega)
      have ox1 := ox1.below (hb7.mono (by omega))
      have b7 := b6.trans (hb7.mono (by omega))
      have i_a := h_a.below b7
      have i_g := h_g.below b7
      clear hb7
      have a_aq := a_a
      obtain ⟨a_a_0, a_a_1, a_a_2, a_a_3, a_a_4, a_a_5, a_a_6, a_a_7⟩ := a_aq
      have a_alt : w.heap.size < w7.heap.size := (by omega)
      have xb_aq := xb_a
      obtain ⟨xb_a_0, xb_a_1, xb_a_2, xb_a_3, xb_a_4, xb_a_5, xb_a_6, xb_a_7⟩ := xb_aq
      have xb_alt : w6.heap.size < w7.heap.size := (by omega)
      go_wp2_with fail
      clear a_a_0 a_a_1 a_a_2 a_a_3 a_a_4 a_a_5 a_a_6 a_a_7 a_alt
      clear xb_a_0 xb_a_1 xb_a_2 xb_a_3 xb_a_4 xb_a_5 xb_a_6 xb_a_7 xb_alt
      refine (toI_any A_g c_g g w.heap.size _ (by omega) i_g (by omega)).mono ?_
      rintro e w8 ⟨x2A, x2c, rfl, ox2, hb8⟩
      have z8 := hb8.size
      have a_a := a_a.below hb8 (by omega)
      have xb_a := xb_a.below hb8 (by omega)
      have ox1 := ox1.below (hb8.mono (by omega))
      have b8 := b7.trans (hb8.mono (by omega))
      have i_a := h_a.below b8
      have i_g := h_g.below b8
      clear hb8
      have a_aq := a_a
      obtain ⟨a_a_0, a_a_1, a_a_2, a_a_3, a_a_4, a_a_5, a_a_6, a_a_7⟩ := a_aq
      have a_alt : w.heap.size < w8.heap.size := (by omega)
      have xb_aq := xb_a
      obtain ⟨xb_a_0, xb_a_1, xb_a_2, xb_a_3, xb_a_4, xb_a_5, xb_a_6, xb_a_7⟩ := xb_aq
      have xb_alt : w6.heap.size < w8.heap.size := (by omega)
      go_wp2_with fail
      clear a_a_0 a_a_1 a_a_2 a_a_3 a_a_4 a_a_5 a_a_6 a_a_7 a_alt
      clear xb_a_0 xb_a_1 xb_a_2 xb_a_3 xb_a_4 xb_a_5 xb_a_6 xb_a_7 xb_alt
      refine (implIsS_any x1 x2A x2c g w8.heap.size _ (ox1.inn.more (by omega)) (ox2.inn.more (by omega)) (by omega) (by omega) (by omega) h_wf).mono ?_
      rintro e w9 ⟨rfl, hb9⟩
      have z9 := hb9.size
      have a_a := a_a.below hb9 (by omega)
      have xb_a := xb_a.below hb9 (by omega)
      have ox1 := ox1.below (hb9.mono (by omega))
      have ox2 := ox2.below (hb9.mono (by omega))
      have b9 := b8.trans (hb9.mono (by omega))
      have i_a := h_a.below b9
      have i_g := h_g.below b9
      clear hb9
      rw [show x1.simple g = X from (Tr.simple_er Qx1.out g).trans HX.out]
      have a_aq := a_a
      obtain ⟨a_a_0, a_a_1, a_a_2, a_a_3, a_a_4, a_a_5, a_a_6, a_a_7⟩ := a_aq
      have a_alt : w.heap.size < w9.heap.size := (by omega)
      have xb_aq := xb_a
      obtain ⟨xb_a_0, xb_a_1, xb_a_2, xb_a_3, xb_a_4, xb_a_5, xb_a_6, xb_a_7⟩ := xb_aq
      have xb_alt : w6.heap.size < w9.heap.size := (by omega)
      go_wp2_with fail
      clear a_a_0 a_a_1 a_a_2 a_a_3 a_a_4 a_a_5 a_a_6 a_a_7 a_alt
      clear xb_a_0 xb_a_1 xb_a_2 xb_a_3 xb_a_4 xb_a_5 xb_a_6 xb_a_7 xb_alt
      have a_aq := a_a
      obtain ⟨a_a_0, a_a_1, a_a_2, a_a_3, a_a_4, a_a_5, a_a_6, a_a_7⟩ := a_aq
      have a_alt : w.heap.size < w9.heap.size := (by omega)
      have xb_aq := xb_a
      obtain ⟨xb_a_0, xb_a_1, xb_a_2, xb_a_3, xb_a_4, xb_a_5, xb_a_6, xb_a_7⟩ := xb_aq
      have xb_alt : w6.heap.size < w9.heap.size := (by omega)
      have tok0 : True := trivial
      have tok1 : True := trivial
      go_region_held3 (fun w' => w'.cell? ⟨w.heap.size, 0, none⟩ = some (.int .i64 a.a.k) ∧ w'.cell? ⟨w.heap.size, 1, none⟩ = some (.int .i64 a.a.n) ∧ w'.cell? ⟨w.heap.size, 2, none⟩ = some (.slice a.a.sA a.a.s.length a.a.sC) ∧ w'.cell? ⟨w.heap.size, 3, none⟩ = some (.int .i64 a.a.d.k) ∧ w'.cell? ⟨w.heap.size, 4, none⟩ = some (.int .i64 a.a.d.n) ∧ w'.cell? ⟨w.heap.size, 5, none⟩ = some (.string a.a.d.t) ∧ w'.cell? ⟨w.heap.size, 6, none⟩ = some (.slice a.a.d.A a.a.d.l.length a.a.d.c) ∧ w'.cell? ⟨w.heap.size, 7, none⟩ = some (.slice a.A a.l.length a.c) ∧ w'.cell? ⟨w6.heap.size, 0, none⟩ = some (.int .i64 x1.a.k) ∧ w'.cell? ⟨w6.heap.size, 1, none⟩ = some (.int .i64 x1.a.n) ∧ w'.cell? ⟨w6.heap.size, 2, none⟩ = some (.slice x1.a.sA x1.a.s.length x1.a.sC) ∧ w'.cell? ⟨w6.heap.size, 3, none⟩ = some (.int .i64 x1.a.d.k) ∧ w'.cell? ⟨w6.heap.size, 4, none⟩ = some (.int .i64 x1.a.d.n) ∧ w'.cell? ⟨w6.heap.size, 5, none⟩ = some (.string x1.a.d.t) ∧ w'.cell? ⟨w6.heap.size, 6, none⟩ = some (.slice x1.a.d.A x1.a.d.l.length x1.a.d.c) ∧ w'.cell? ⟨w6.heap.size, 7, none⟩ = some (.slice x1.A x1.l.length x1.c)) (go_keep)
        (first
          | (go_at_call 7; have _t := tok0; refine (Ko_to_any 2000000 a w.heap.size _ ?_ hs_a ?_ ?_).mono ?_; omega; exact i_a.drew; (show w.heap.size ≤ w9.heap.size); omega; rintro e w10 ⟨y1, rfl, hey1, oy1, hb10⟩; have hb10 : Below w9.heap.size w9 w10 := below_undrew hb10; have z10 : w9.heap.size ≤ w10.heap.size := hb10.size; clear tok0; have Qy1 := Lib.hid hey1; clear hey1; have a_a := a_a.below hb10 (by omega); have xb_a := xb_a.below hb10 (by omega); have ox1 := ox1.below (hb10.mono (by omega)); have ox2 := ox2.below (hb10.mono (by omega)); have b10 := b9.trans (hb10.mono (by omega)); have i_a := h_a.below b10; have i_g := h_g.below b10; clear hb10; have a_aq := a_a; obtain ⟨a_a_0, a_a_1, a_a_2, a_a_3, a_a_4, a_a_5, a_a_6, a_a_7⟩ := a_aq; have a_alt : w.heap.size < w10.heap.size := (by omega); have xb_aq := xb_a; obtain ⟨xb_a_0, xb_a_1, xb_a_2, xb_a_3, xb_a_4, xb_a_5, xb_a_6, xb_a_7⟩ := xb_aq; have xb_alt : w6.heap.size < w10.heap.size := (by omega))
          | (go_at_call 10; have _t := tok1; refine (Ko_eq_any _ x1 y1 w10.heap.size _ (Nat.le_refl _) (Qx1.out.trans Qy1.out.symm) ?_ ?_ ?_).mono ?_; exact ox1.inn.more (by omega); exact oy1.inn.more (by omega); omega; rintro e w11 ⟨rfl, hb11⟩; have z11 : w10.heap.size ≤ w11.heap.size := hb11.size; clear tok1; have a_a := a_a.below hb11 (by omega); have xb_a := xb_a.below hb11 (by omega); have ox1 := ox1.below (hb11.mono (by omega)); have ox2 := ox2.below (hb11.mono (by omega)); have b11 := b10.trans (hb11.mono (by omega)); have i_a := h_a.below b11; have i_g := h_g.below b11; clear hb11; have a_aq := a_a; obtain ⟨a_a_0, a_a_1, a_a_2, a_a_3, a_a_4, a_a_5, a_a_6, a_a_7⟩ := a_aq; have a_alt : w.heap.size < w11.heap.size := (by omega); have xb_aq := xb_a; obtain ⟨xb_a_0, xb_a_1, xb_a_2, xb_a_3, xb_a_4, xb_a_5, xb_a_6, xb_a_7⟩ := xb_aq; have xb_alt : w6.heap.size < w11.heap.size := (by omega)))
      clear a_a_0 a_a_1 a_a_2 a_a_3 a_a_4 a_a_5 a_a_6 a_a_7 a_alt
      clear xb_a_0 xb_a_1 xb_a_2 xb_a_3 xb_a_4 xb_a_5 xb_a_6 xb_a_7 xb_alt
      clear oy1
      have a_aq := a_a
      obtain ⟨a_a_0, a_a_1, a_a_2, a_a_3, a_a_4, a_a_5, a_a_6, a_a_7⟩ := a_aq
      have a_alt : w.heap.size < w11.heap.size := (by omega)
      have xb_aq := xb_a
      obtain ⟨xb_a_0, xb_a_1, xb_a_2, xb_a_3, xb_a_4, xb_a_5, xb_a_6, xb_a_7⟩ := xb_aq
      have xb_alt : w6.heap.size < w11.heap.size := (by omega)
      go_wp2_with fail
      clear a_a_0 a_a_1 a_a_2 a_a_3 a_a_4 a_a_5 a_a_6 a_a_7 a_alt
      clear xb_a_0 xb_a_1 xb_a_2 xb_a_3 xb_a_4 xb_a_5 xb_a_6 xb_a_7 xb_alt
      refine (toI_any A_g c_g g w.heap.size _ (by omega) i_g (by omega)).mono ?_
      rintro e w12 ⟨y2A, y2c, rfl, oy2, hb12⟩
      have z12 := hb12.size
      have a_a := a_a.below hb12 (by omega)
      have xb_a := xb_a.below hb12 (by omega)
      have ox1 := ox1.below (hb12.mono (by omega))
      have ox2 := ox2.below (hb12.mono (by omega))
      have b12 := b11.trans (hb12.mono (by omega))
      have i_a := h_a.below b12
      have i_g := h_g.below b12
      clear hb12
      have a_aq := a_a
      obtain ⟨a_a_0, a_a_1, a_a_2, a_a_3, a_a_4, a_a_5, a_a_6, a_a_7⟩ := a_aq
      have a_alt : w.heap.size < w12.heap.size := (by omega)
      have xb_aq := xb_a
      obtain ⟨xb_a_0, xb_a_1, xb_a_2, xb_a_3, xb_a_4, xb_a_5, xb_a_6, xb_a_7⟩ := xb_aq
      have xb_alt : w6.heap.size < w12.heap.size := (by omega)
      go_wp2_with fail
      clear a_a_0 a_a_1 a_a_2 a_a_3 a_a_4 a_a_5 a_a_6 a_a_7 a_alt
      clear xb_a_0 xb_a_1 xb_a_2 xb_a_3 xb_a_4 xb_a_5 xb_a_6 xb_a_7 xb_alt
      refine (eqI_same x2A x2c g y2A y2c w12.heap.size _ (ox2.inn.more (by omega)) (oy2.inn.more (by omega)) (by omega)).mono ?_
      rintro e w13 ⟨rfl, hb13⟩
      have z13 := hb13.size
      have a_a := a_a.below hb13 (by omega)
      have xb_a := xb_a.below hb13 (by omega)
      have ox1 := ox1.below (hb13.mono (by omega))
      have ox2 := ox2.below (hb13.mono (by omega))
      have oy2 := oy2.below (hb13.mono (by omega))
      have b13 := b12.trans (hb13.mono (by omega))
      have i_a := h_a.below b13
      have i_g := h_g.below b13
      clear hb13
      have a_aq := a_a
      obtain ⟨a_a_0, a_a_1, a_a_2, a_a_3, a_a_4, a_a_5, a_a_6, a_a_7⟩ := a_aq
      have a_alt : w.heap.size < w13.heap.size := (by omega)
      have xb_aq := xb_a
      obtain ⟨xb_a_0, xb_a_1, xb_a_2, xb_a_3, xb_a_4, xb_a_5, xb_a_6, xb_a_7⟩ := xb_aq
      have xb_alt : w6.heap.size < w13.heap.size := (by omega)
      go_wp2_with fail
      clear a_a_0 a_a_1 a_a_2 a_a_3 a_a_4 a_a_5 a_a_6 a_a_7 a_alt
      clear xb_a_0 xb_a_1 xb_a_2 xb_a_3 xb_a_4 xb_a_5 xb_a_6 xb_a_7 xb_alt
      go_ret
      exact ⟨rfl, b13⟩
    · have b0 : Below w.heap.size w w := Below.refl _ _
      have i_a := h_a
      have i_g := h_g
      go_enter Try.func3, Try.ntmps3
      go_wp2_with fail
      obtain ⟨w1, hw1⟩ : ∃ W, W = w.alloc (.cells #[.int .i64 a.a.k, .int .i64 a.a.n, .slice a.a.sA a.a.s.length a.a.sC, .int .i64 a.a.d.k, .int .i64 a.a.d.n, .string a.a.d.t, .slice a.a.d.A a.a.d.l.length a.a.d.c, .slice a.A a.l.length a.c] 28) := ⟨_, rfl⟩
      rw [← hw1]
      have hb1 : Below w.heap.size w w1 := by rw [hw1]; exact (Below.refl _ _).alloc (Nat.le_refl _) _
      have z1 : w.heap.size + 1 ≤ w1.heap.size := by rw [hw1]; simp
      have y1 : w1.heap.size ≤ w.heap.size + 1 := by rw [hw1]; simp
      have a_a : Ko.Box w1 w.heap.size a := by rw [hw1]; exact Ko.Box.new _ _ _
      clear hw1
      have b1 := b0.trans (hb1.mono (by omega))
      have i_a := h_a.below b1
      have i_g := h_g.below b1
      clear hb1
      refine (Ko_sz_any (a.size + 1) a w.heap.size _ 1048576 (by omega) (by omega) (by omega) i_a (by omega)).mono ?_
      rintro e w2 ⟨rfl, hb2⟩
      have z2 := hb2.size
      have a_a := a_a.below hb2 (by omega)
      have b2 := b1.trans (hb2.mono (by omega))
      have i_a := h_a.below b2
      have i_g := h_g.below b2
      clear hb2
      rw [szR_no (by omega)]
      have a_aq := a_a
      obtain ⟨a_a_0, a_a_1, a_a_2, a_a_3, a_a_4, a_a_5, a_a_6, a_a_7⟩ := a_aq
      have a_alt : w.heap.size < w2.heap.size := (by omega)
      go_wp2_with fail
      clear a_a_0 a_a_1 a_a_2 a_a_3 a_a_4 a_a_5 a_a_6 a_a_7 a_alt
      go_ret
      exact ⟨rfl, b2⟩
  · have gg : (g.length : Int) > 1048576 := by omega
    have b0 : Below w.heap.size w w := Below.refl _ _
    have i_a := h_a
    have i_g := h_g
    go_enter Try.func3, Try.ntmps3
    go_wp2_with fail
    go_ret
    exact ⟨rfl, (Below.refl _ _).alloc (Nat.le_refl _) _⟩
end Go.Proofs.Ytnkdfphbglcnmaa
