/-
  The law on RenumberCore, walked (written by gen/krnl.py).
-/
import Derived.Test.YtpigpncbjckbcaaGreatGRn
import Derived.Test.YtpigpncbjckbcaaGreatGMk
import Derived.Test.YtpigpncbjckbcaaGreatKoCopy
import Derived.Test.YtpigpncbjckbcaaGreatKoC
import Derived.Deep.RegionHeld3
import Derived.Deep.DeepCutAuto
namespace Go.Proofs.YtpigpncbjckbcaaGreat
open Go.RowKit
set_option maxRecDepth 100000 in
set_option maxHeartbeats 16000000 in
theorem law_krl (a : Tr Ko) (n : Int) (w : World) (h_a : Ko.E.In w w.heap.size a) : Calls Tryz.prog 3 #[Ko.val a, .int .i64 n] w fun e w' => e = .returned (.bool true) ∧ Below w.heap.size w w' := by
  unfold Ko.val
  by_cases hz_a : (a.bulk Ko.bulk : Int) ≤ 1048576
  · have hs_a : a.size ≤ 2000000 := by have := Tr.size_le_bulk Ko.bulk a; omega
    have hk_a : a.bulk Ko.bulk ≤ 1048576 := by omega
    obtain ⟨Y, hY⟩ : ∃ Y, Y = (Tr.rnC n a).er Ko.er := ⟨_, rfl⟩
    have HY := Lib.hid hY
    clear hY
    obtain ⟨X, hX⟩ : ∃ X, X = Tr.rnN n a := ⟨_, rfl⟩
    have HX := Lib.hid hX
    clear hX
    have wk_a := Tr.kwt_le a
    have b0 : Below w.heap.size w w := Below.refl _ _
    have i_a := h_a
    go_enter Tryz.func3, Tryz.ntmps3
    go_wp2_with fail
    obtain ⟨w1, hw1⟩ : ∃ W, W = w.alloc (.cells #[.int .i64 a.a.k, .int .i64 a.a.n, .slice a.a.sA a.a.s.length a.a.sC, .int .i64 a.a.d.k, .int .i64 a.a.d.n, .string a.a.d.t, .slice a.a.d.A a.a.d.l.length a.a.d.c, .slice a.A a.l.length a.c] 28) := ⟨_, rfl⟩
    rw [← hw1]
    have hb1 : Below w.heap.size w w1 := by rw [hw1]; exact (Below.refl _ _).alloc (Nat.le_refl _) _
    have z1 : w.heap.size + 1 ≤ w1.heap.size := by rw [hw1]; simp
    have y1 : w1.heap.size ≤ w.heap.size + 1 := by rw [hw1]; simp
    have a_a : Ko.Box w1 w.heap.size a := by rw [hw1]; exact Ko.Box.new _ _ _
    clear hw1
    have b1 := b0.trans (hb1.mono (by omega))
    have i_a := h_a.below b1
    clear hb1
    refine (Ko_sz_any 2000000 a w.heap.size _ 1048576 hs_a (by omega) (by omega) i_a (by omega)).mono ?_
    rintro e w2 ⟨rfl, hb2⟩
    have z2 := hb2.size
    have a_a := a_a.below hb2 (by omega)
    have b2 := b1.trans (hb2.mono (by omega))
    have i_a := h_a.below b2
    clear hb2
    rw [szR_yes (by omega)]
    have n1_a : ¬ (1048576 - (a.bulk Ko.bulk : Int) < 0) := by omega
    have a_aq := a_a
    obtain ⟨a_a_0, a_a_1, a_a_2, a_a_3, a_a_4, a_a_5, a_a_6, a_a_7⟩ := a_aq
    have a_alt : w.heap.size < w2.heap.size := (by omega)
    go_wp2_with fail
    clear a_a_0 a_a_1 a_a_2 a_a_3 a_a_4 a_a_5 a_a_6 a_a_7 a_alt
    refine (Ko_to_any 2000000 a w.heap.size _ (by omega) hs_a i_a (by omega)).mono ?_
    rintro e w3 ⟨d1_a, rfl, hed1_a, od1_a, hb3⟩
    have z3 := hb3.size
    have a_a := a_a.below hb3 (by omega)
    have b3 := b2.trans (hb3.mono (by omega))
    have i_a := h_a.below b3
    clear hb3
    have Qd1_a := Lib.hid hed1_a
    have sd1_a : d1_a.size ≤ 2000000 := (by rw [Tr.size_of_er _ _ Qd1_a.out]; exact hs_a)
    have kd1_a : d1_a.bulk Ko.bulk ≤ 1048576 := (by rw [Tr.bulk_of_er (fun _ _ => Ko.bulk_of_er) _ _ Qd1_a.out]; exact hk_a)
    clear hed1_a
    have a_aq := a_a
    obtain ⟨a_a_0, a_a_1, a_a_2, a_a_3, a_a_4, a_a_5, a_a_6, a_a_7⟩ := a_aq
    have a_alt : w.heap.size < w3.heap.size := (by omega)
    go_wp2_with fail
    clear a_a_0 a_a_1 a_a_2 a_a_3 a_a_4 a_a_5 a_a_6 a_a_7 a_alt
    refine (specRnC_c n d1_a w3.heap.size _ Qd1_a.out HY.out.symm HX.out.symm (od1_a.inn.more (by omega)) (by omega) hk_a).mono ?_
    rintro e w4 ⟨vv, rfl, hevv, ovv, hb4⟩
    have z4 := hb4.size
    have a_a := a_a.below hb4 (by omega)
    have od1_a := od1_a.below (hb4.mono (by omega))
    have b4 := b3.trans (hb4.mono (by omega))
    have i_a := h_a.below b4
    clear hb4
    have Qvv := Lib.hid hevv
    have kvv : vv.bulk Ko.bulk ≤ 1300000 := (by rw [Tr.bulk_of_er (f := Ko.bulk) (fun _ _ => Ko.bulk_of_er) _ _ (Qvv.out.trans HY.out), Tr.rnC_bulk]; omega)
    have wk_vv := Tr.kwt_le vv
    clear hevv
    simp only [Ko.val]
    clear od1_a
    have a_aq := a_a
    obtain ⟨a_a_0, a_a_1, a_a_2, a_a_3, a_a_4, a_a_5, a_a_6, a_a_7⟩ := a_aq
    have a_alt : w.heap.size < w4.heap.size := (by omega)
    go_wp2_with fail
    clear a_a_0 a_a_1 a_a_2 a_a_3 a_a_4 a_a_5 a_a_6 a_a_7 a_alt
    obtain ⟨w5, hw5⟩ : ∃ W, W = w4.alloc (.cells #[.int .i64 vv.a.k, .int .i64 vv.a.n, .slice vv.a.sA vv.a.s.length vv.a.sC, .int .i64 vv.a.d.k, .int .i64 vv.a.d.n, .string vv.a.d.t, .slice vv.a.d.A vv.a.d.l.length vv.a.d.c, .slice vv.A vv.l.length vv.c] 35) := ⟨_, rfl⟩
    rw [← hw5]
    have hb5 : Below w4.heap.size w4 w5 := by rw [hw5]; exact (Below.refl _ _).alloc (Nat.le_refl _) _
    have z5 : w4.heap.size + 1 ≤ w5.heap.size := by rw [hw5]; simp
    have y5 : w5.heap.size ≤ w4.heap.size + 1 := by rw [hw5]; simp
    have wb : Ko.Box w5 w4.heap.size vv := by rw [hw5]; exact Ko.Box.new _ _ _
    clear hw5
    have a_a := a_a.below hb5 (by omega)
    have ovv := ovv.below (hb5.mono (by omega))
    have b5 := b4.trans (hb5.mono (by omega))
    have i_a := h_a.below b5
    clear hb5
    refine (Ko_to_any 2000000 a w.heap.size _ (by omega) hs_a i_a (by omega)).mono ?_
    rintro e w6 ⟨x_a, rfl, hex_a, ox_a, hb6⟩
    have z6 := hb6.size
    have a_a := a_a.below hb6 (by omega)
    have wb := wb.below hb6 (by omega)
    have ovv := ovv.below (hb6.mono (by omega))
    have b6 := b5.trans (hb6.mono (by omega))
    have i_a := h_a.below b6
    clear hb6
    have Qx_a := Lib.hid hex_a
    have sx_a : x_a.size ≤ 2000000 := (by rw [Tr.size_of_er _ _ Qx_a.out]; exact hs_a)
    have kx_a : x_a.bulk Ko.bulk ≤ 1048576 := (by rw [Tr.bulk_of_er (fun _ _ => Ko.bulk_of_er) _ _ Qx_a.out]; exact hk_a)
    clear hex_a
    simp only [Ko.val]
    have a_aq := a_a
    obtain ⟨a_a_0, a_a_1, a_a_2, a_a_3, a_a_4, a_a_5, a_a_6, a_a_7⟩ := a_aq
    have a_alt : w.heap.size < w6.heap.size := (by omega)
    have wbq := wb
    obtain ⟨wb_0, wb_1, wb_2, wb_3, wb_4, wb_5, wb_6, wb_7⟩ := wbq
    have wblt : w4.heap.size < w6.heap.size := (by omega)
    go_wp2_with fail
    clear a_a_0 a_a_1 a_a_2 a_a_3 a_a_4 a_a_5 a_a_6 a_a_7 a_alt
    clear wb_0 wb_1 wb_2 wb_3 wb_4 wb_5 wb_6 wb_7 wblt
    obtain ⟨w7, hw7⟩ : ∃ W, W = w6.alloc (.cells #[.int .i64 x_a.a.k, .int .i64 x_a.a.n, .slice x_a.a.sA x_a.a.s.length x_a.a.sC, .int .i64 x_a.a.d.k, .int .i64 x_a.a.d.n, .string x_a.a.d.t, .slice x_a.a.d.A x_a.a.d.l.length x_a.a.d.c, .slice x_a.A x_a.l.length x_a.c] 35) := ⟨_, rfl⟩
    rw [← hw7]
    have hb7 : Below w6.heap.size w6 w7 := by rw [hw7]; exact (Below.refl _ _).alloc (Nat.le_refl _) _
    have z7 : w6.heap.size + 1 ≤ w7.heap.size := by rw [hw7]; simp
    have y7 : w7.heap.size ≤ w6.heap.size + 1 := by rw [hw7]; simp
    have xb_a : Ko.Box w7 w6.heap.size x_a := by rw [hw7]; exact Ko.Box.new _ _ _
    clear hw7
    have a_a := a_a.below hb7 (by omega)
    have wb := wb.below hb7 (by omega)
    have ovv := ovv.below (hb7.mono (by omega))
    have ox_a := ox_a.below (hb7.mono (by omega))
    have b7 := b6.trans (hb7.mono (by omega))
    have i_a := h_a.below b7
    clear hb7
    refine (implRnC_c n x_a w7.heap.size _ Qx_a.out HY.out.symm HX.out.symm (ox_a.inn.more (by omega)) (by omega) hk_a).mono ?_
    rintro e w8 ⟨gv, rfl, hegv, ogv, hb8⟩
    have z8 := hb8.size
    have a_a := a_a.below hb8 (by omega)
    have wb := wb.below hb8 (by omega)
    have xb_a := xb_a.below hb8 (by omega)
    have ovv := ovv.below (hb8.mono (by omega))
    have ox_a := ox_a.below (hb8.mono (by omega))
    have b8 := b7.trans (hb8.mono (by omega))
    have i_a := h_a.below b8
    clear hb8
    have Qgv := Lib.hid hegv
    have kgv : gv.bulk Ko.bulk ≤ 1300000 := (by rw [Tr.bulk_of_er (f := Ko.bulk) (fun _ _ => Ko.bulk_of_er) _ _ (Qgv.out.trans HY.out), Tr.rnC_bulk]; omega)
    have wk_gv := Tr.kwt_le gv
    clear hegv
    simp only [Ko.val]
    have a_aq := a_a
    obtain ⟨a_a_0, a_a_1, a_a_2, a_a_3, a_a_4, a_a_5, a_a_6, a_a_7⟩ := a_aq
    have a_alt : w.heap.size < w8.heap.size := (by omega)
    have wbq := wb
    obtain ⟨wb_0, wb_1, wb_2, wb_3, wb_4, wb_5, wb_6, wb_7⟩ := wbq
    have wblt : w4.heap.size < w8.heap.size := (by omega)
    have xb_aq := xb_a
    obtain ⟨xb_a_0, xb_a_1, xb_a_2, xb_a_3, xb_a_4, xb_a_5, xb_a_6, xb_a_7⟩ := xb_aq
    have xb_alt : w6.heap.size < w8.heap.size := (by omega)
    go_wp2_with fail
    clear a_a_0 a_a_1 a_a_2 a_a_3 a_a_4 a_a_5 a_a_6 a_a_7 a_alt
    clear wb_0 wb_1 wb_2 wb_3 wb_4 wb_5 wb_6 wb_7 wblt
    clear xb_a_0 xb_a_1 xb_a_2 xb_a_3 xb_a_4 xb_a_5 xb_a_6 xb_a_7 xb_alt
    obtain ⟨w9, hw9⟩ : ∃ W, W = w8.alloc (.cells #[.int .i64 gv.a.k, .int .i64 gv.a.n, .slice gv.a.sA gv.a.s.length gv.a.sC, .int .i64 gv.a.d.k, .int .i64 gv.a.d.n, .string gv.a.d.t, .slice gv.a.d.A gv.a.d.l.length gv.a.d.c, .slice gv.A gv.l.length gv.c] 35) := ⟨_, rfl⟩
    rw [← hw9]
    have hb9 : Below w8.heap.size w8 w9 := by rw [hw9]; exact (Below.refl _ _).alloc (Nat.le_refl _) _
    have z9 : w8.heap.size + 1 ≤ w9.heap.size := by rw [hw9]; simp
    have y9 : w9.heap.size ≤ w8.heap.size + 1 := by rw [hw9]; simp
    have gb : Ko.Box w9 w8.heap.size gv := by rw [hw9]; exact Ko.Box.new _ _ _
    clear hw9
    have a_a := a_a.below hb9 (by omega)
    have wb := wb.below hb9 (by omega)
    have xb_a := xb_a.below hb9 (by omega)
    have ovv := ovv.below (hb9.mono (by omega))
    have ox_a := ox_a.below (hb9.mono (by omega))
    have ogv := ogv.below (hb9.mono (by omega))
    have b9 := b8.trans (hb9.mono (by omega))
    have i_a := h_a.below b9
    clear hb9
    refine (Ko_eq_any _ gv vv w9.heap.size _ (Nat.le_refl _) (Qgv.out.trans Qvv.out.symm) (ogv.inn.more (by omega)) (ovv.inn.more (by omega)) (by omega)).mono ?_
    rintro e w10 ⟨rfl, hb10⟩
    have z10 := hb10.size
    have a_a := a_a.below hb10 (by omega)
    have wb := wb.below hb10 (by omega)
    have xb_a := xb_a.below hb10 (by omega)
    have gb := gb.below hb10 (by omega)
    have ovv := ovv.below (hb10.mono (by omega))
    have ox_a := ox_a.below (hb10.mono (by omega))
    have ogv := ogv.below (hb10.mono (by omega))
    have b10 := b9.trans (hb10.mono (by omega))
    have i_a := h_a.below b10
    clear hb10
    have a_aq := a_a
    obtain ⟨a_a_0, a_a_1, a_a_2, a_a_3, a_a_4, a_a_5, a_a_6, a_a_7⟩ := a_aq
    have a_alt : w.heap.size < w10.heap.size := (by omega)
    have wbq := wb
    obtain ⟨wb_0, wb_1, wb_2, wb_3, wb_4, wb_5, wb_6, wb_7⟩ := wbq
    have wblt : w4.heap.size < w10.heap.size := (by omega)
    have xb_aq := xb_a
    obtain ⟨xb_a_0, xb_a_1, xb_a_2, xb_a_3, xb_a_4, xb_a_5, xb_a_6, xb_a_7⟩ := xb_aq
    have xb_alt : w6.heap.size < w10.heap.size := (by omega)
    have gbq := gb
    obtain ⟨gb_0, gb_1, gb_2, gb_3, gb_4, gb_5, gb_6, gb_7⟩ := gbq
    have gblt : w8.heap.size < w10.heap.size := (by omega)
    go_wp2_with fail
    clear a_a_0 a_a_1 a_a_2 a_a_3 a_a_4 a_a_5 a_a_6 a_a_7 a_alt
    clear wb_0 wb_1 wb_2 wb_3 wb_4 wb_5 wb_6 wb_7 wblt
    clear xb_a_0 xb_a_1 xb_a_2 xb_a_3 xb_a_4 xb_a_5 xb_a_6 xb_a_7 xb_alt
    clear gb_0 gb_1 gb_2 gb_3 gb_4 gb_5 gb_6 gb_7 gblt
    have a_aq := a_a
    obtain ⟨a_a_0, a_a_1, a_a_2, a_a_3, a_a_4, a_a_5, a_a_6, a_a_7⟩ := a_aq
    have a_alt : w.heap.size < w10.heap.size := (by omega)
    have wbq := wb
    obtain ⟨wb_0, wb_1, wb_2, wb_3, wb_4, wb_5, wb_6, wb_7⟩ := wbq
    have wblt : w4.heap.size < w10.heap.size := (by omega)
    have xb_aq := xb_a
    obtain ⟨xb_a_0, xb_a_1, xb_a_2, xb_a_3, xb_a_4, xb_a_5, xb_a_6, xb_a_7⟩ := xb_aq
    have xb_alt : w6.heap.size < w10.heap.size := (by omega)
    have gbq := gb
    obtain ⟨gb_0, gb_1, gb_2, gb_3, gb_4, gb_5, gb_6, gb_7⟩ := gbq
    have gblt : w8.heap.size < w10.heap.size := (by omega)
    have tok0 : True := trivial
    have tok1 : True := trivial
    go_region_held3 (fun w' => w'.cell? ⟨w.heap.size, 0, none⟩ = some (.int .i64 a.a.k) ∧ w'.cell? ⟨w.heap.size, 1, none⟩ = some (.int .i64 a.a.n) ∧ w'.cell? ⟨w.heap.size, 2, none⟩ = some (.slice a.a.sA a.a.s.length a.a.sC) ∧ w'.cell? ⟨w.heap.size, 3, none⟩ = some (.int .i64 a.a.d.k) ∧ w'.cell? ⟨w.heap.size, 4, none⟩ = some (.int .i64 a.a.d.n) ∧ w'.cell? ⟨w.heap.size, 5, none⟩ = some (.string a.a.d.t) ∧ w'.cell? ⟨w.heap.size, 6, none⟩ = some (.slice a.a.d.A a.a.d.l.length a.a.d.c) ∧ w'.cell? ⟨w.heap.size, 7, none⟩ = some (.slice a.A a.l.length a.c) ∧ w'.cell? ⟨w6.heap.size, 0, none⟩ = some (.int .i64 x_a.a.k) ∧ w'.cell? ⟨w6.heap.size, 1, none⟩ = some (.int .i64 x_a.a.n) ∧ w'.cell? ⟨w6.heap.size, 2, none⟩ = some (.slice x_a.a.sA x_a.a.s.length x_a.a.sC) ∧ w'.cell? ⟨w6.heap.size, 3, none⟩ = some (.int .i64 x_a.a.d.k) ∧ w'.cell? ⟨w6.heap.size, 4, none⟩ = some (.int .i64 x_a.a.d.n) ∧ w'.cell? ⟨w6.heap.size, 5, none⟩ = some (.string x_a.a.d.t) ∧ w'.cell? ⟨w6.heap.size, 6, none⟩ = some (.slice x_a.a.d.A x_a.a.d.l.length x_a.a.d.c) ∧ w'.cell? ⟨w6.heap.size, 7, none⟩ = some (.slice x_a.A x_a.l.length x_a.c)) (go_keep)
      (first
        | (go_at_call 10; have _t := tok0; refine (Ko_to_any 2000000 a w.heap.size _ ?_ hs_a ?_ ?_).mono ?_; omega; exact i_a.drew; (show w.heap.size ≤ w10.heap.size); omega; rintro e w11 ⟨y_a, rfl, hey_a, oy_a, hb11⟩; have hb11 : Below w10.heap.size w10 w11 := below_undrew hb11; have z11 : w10.heap.size ≤ w11.heap.size := hb11.size; clear tok0; have Qy_a := Lib.hid hey_a; clear hey_a; have a_a := a_a.below hb11 (by omega); have wb := wb.below hb11 (by omega); have xb_a := xb_a.below hb11 (by omega); have gb := gb.below hb11 (by omega); have ovv := ovv.below (hb11.mono (by omega)); have ox_a := ox_a.below (hb11.mono (by omega)); have ogv := ogv.below (hb11.mono (by omega)); have b11 := b10.trans (hb11.mono (by omega)); have i_a := h_a.below b11; clear hb11; have a_aq := a_a; obtain ⟨a_a_0, a_a_1, a_a_2, a_a_3, a_a_4, a_a_5, a_a_6, a_a_7⟩ := a_aq; have a_alt : w.heap.size < w11.heap.size := (by omega); have wbq := wb; obtain ⟨wb_0, wb_1, wb_2, wb_3, wb_4, wb_5, wb_6, wb_7⟩ := wbq; have wblt : w4.heap.size < w11.heap.size := (by omega); have xb_aq := xb_a; obtain ⟨xb_a_0, xb_a_1, xb_a_2, xb_a_3, xb_a_4, xb_a_5, xb_a_6, xb_a_7⟩ := xb_aq; have xb_alt : w6.heap.size < w11.heap.size := (by omega); have gbq := gb; obtain ⟨gb_0, gb_1, gb_2, gb_3, gb_4, gb_5, gb_6, gb_7⟩ := gbq; have gblt : w8.heap.size < w11.heap.size := (by omega))
        | (go_at_call 12; have _t := tok1; refine (Ko_eq_any _ x_a y_a w11.heap.size _ (Nat.le_refl _) (Qx_a.out.trans Qy_a.out.symm) ?_ ?_ ?_).mono ?_; exact ox_a.inn.more (by omega); exact oy_a.inn.more (by omega); omega; rintro e w12 ⟨rfl, hb12⟩; have z12 : w11.heap.size ≤ w12.heap.size := hb12.size; clear tok1; have a_a := a_a.below hb12 (by omega); have wb := wb.below hb12 (by omega); have xb_a := xb_a.below hb12 (by omega); have gb := gb.below hb12 (by omega); have ovv := ovv.below (hb12.mono (by omega)); have ox_a := ox_a.below (hb12.mono (by omega)); have ogv := ogv.below (hb12.mono (by omega)); have b12 := b11.trans (hb12.mono (by omega)); have i_a := h_a.below b12; clear hb12; have a_aq := a_a; obtain ⟨a_a_0, a_a_1, a_a_2, a_a_3, a_a_4, a_a_5, a_a_6, a_a_7⟩ := a_aq; have a_alt : w.heap.size < w12.heap.size := (by omega); have wbq := wb; obtain ⟨wb_0, wb_1, wb_2, wb_3, wb_4, wb_5, wb_6, wb_7⟩ := wbq; have wblt : w4.heap.size < w12.heap.size := (by omega); have xb_aq := xb_a; obtain ⟨xb_a_0, xb_a_1, xb_a_2, xb_a_3, xb_a_4, xb_a_5, xb_a_6, xb_a_7⟩ := xb_aq; have xb_alt : w6.heap.size < w12.heap.size := (by omega); have gbq := gb; obtain ⟨gb_0, gb_1, gb_2, gb_3, gb_4, gb_5, gb_6, gb_7⟩ := gbq; have gblt : w8.heap.size < w12.heap.size := (by omega)))
    clear a_a_0 a_a_1 a_a_2 a_a_3 a_a_4 a_a_5 a_a_6 a_a_7 a_alt
    clear wb_0 wb_1 wb_2 wb_3 wb_4 wb_5 wb_6 wb_7 wblt
    clear xb_a_0 xb_a_1 xb_a_2 xb_a_3 xb_a_4 xb_a_5 xb_a_6 xb_a_7 xb_alt
    clear gb_0 gb_1 gb_2 gb_3 gb_4 gb_5 gb_6 gb_7 gblt
    clear oy_a
    have a_aq := a_a
    obtain ⟨a_a_0, a_a_1, a_a_2, a_a_3, a_a_4, a_a_5, a_a_6, a_a_7⟩ := a_aq
    have a_alt : w.heap.size < w12.heap.size := (by omega)
    have wbq := wb
    obtain ⟨wb_0, wb_1, wb_2, wb_3, wb_4, wb_5, wb_6, wb_7⟩ := wbq
    have wblt : w4.heap.size < w12.heap.size := (by omega)
    have xb_aq := xb_a
    obtain ⟨xb_a_0, xb_a_1, xb_a_2, xb_a_3, xb_a_4, xb_a_5, xb_a_6, xb_a_7⟩ := xb_aq
    have xb_alt : w6.heap.size < w12.heap.size := (by omega)
    have gbq := gb
    obtain ⟨gb_0, gb_1, gb_2, gb_3, gb_4, gb_5, gb_6, gb_7⟩ := gbq
    have gblt : w8.heap.size < w12.heap.size := (by omega)
    go_wp2_with fail
    clear a_a_0 a_a_1 a_a_2 a_a_3 a_a_4 a_a_5 a_a_6 a_a_7 a_alt
    clear wb_0 wb_1 wb_2 wb_3 wb_4 wb_5 wb_6 wb_7 wblt
    clear xb_a_0 xb_a_1 xb_a_2 xb_a_3 xb_a_4 xb_a_5 xb_a_6 xb_a_7 xb_alt
    clear gb_0 gb_1 gb_2 gb_3 gb_4 gb_5 gb_6 gb_7 gblt
    have wq_a := Tr.kwt_le x_a
    refine (Ko_mark_any x_a w5.heap.size w6.heap.size _ 1 (by omega) (by omega) (by omega) ox_a (by omega)).mono ?_
    rintro e w13 ⟨rfl, x_am, hc13⟩
    have z13 := hc13.size
    have hl13 : ∀ k ∈ Ko.E.blks x_a, w5.heap.size ≤ k ∧ k < w6.heap.size := fun k hk => ⟨ox_a.lo_ _ hk, ox_a.inn.blk_lt _ hk⟩
    have a_a := a_a.chg hc13 (by omega) (fun hm => by have := hl13 _ hm; omega)
    have wb := wb.chg hc13 (by omega) (fun hm => by have := hl13 _ hm; omega)
    have xb_a := xb_a.chg hc13 (by omega) (fun hm => by have := hl13 _ hm; omega)
    have gb := gb.chg hc13 (by omega) (fun hm => by have := hl13 _ hm; omega)
    have ovv := ovv.keepB (w' := w13) (fun k hk => hc13.block k (by have := ovv.inn.blk_lt _ hk; omega) (fun hm => by have := hl13 _ hm; have := ovv.inn.blk_lt _ hk; have := ovv.lo_ _ hk; omega))
    have ogv := ogv.keepB (w' := w13) (fun k hk => hc13.block k (by have := ogv.inn.blk_lt _ hk; omega) (fun hm => by have := hl13 _ hm; have := ogv.inn.blk_lt _ hk; have := ogv.lo_ _ hk; omega))
    have b13 : Below w.heap.size w w13 := b12.trans (hc13.below (fun k hk => by have := hl13 _ hk; omega) (by omega))
    have i_a := h_a.below b13
    have ox_a := x_am
    clear hc13 hl13 x_am
    have n2_a : ¬ (1 + (Tr.kwt x_a : Int) < 0) := by omega
    clear ox_a
    have a_aq := a_a
    obtain ⟨a_a_0, a_a_1, a_a_2, a_a_3, a_a_4, a_a_5, a_a_6, a_a_7⟩ := a_aq
    have a_alt : w.heap.size < w13.heap.size := (by omega)
    have wbq := wb
    obtain ⟨wb_0, wb_1, wb_2, wb_3, wb_4, wb_5, wb_6, wb_7⟩ := wbq
    have wblt : w4.heap.size < w13.heap.size := (by omega)
    have xb_aq := xb_a
    obtain ⟨xb_a_0, xb_a_1, xb_a_2, xb_a_3, xb_a_4, xb_a_5, xb_a_6, xb_a_7⟩ := xb_aq
    have xb_alt : w6.heap.size < w13.heap.size := (by omega)
    have gbq := gb
    obtain ⟨gb_0, gb_1, gb_2, gb_3, gb_4, gb_5, gb_6, gb_7⟩ := gbq
    have gblt : w8.heap.size < w13.heap.size := (by omega)
    go_wp2_with fail
    clear a_a_0 a_a_1 a_a_2 a_a_3 a_a_4 a_a_5 a_a_6 a_a_7 a_alt
    clear wb_0 wb_1 wb_2 wb_3 wb_4 wb_5 wb_6 wb_7 wblt
    clear xb_a_0 xb_a_1 xb_a_2 xb_a_3 xb_a_4 xb_a_5 xb_a_6 xb_a_7 xb_alt
    clear gb_0 gb_1 gb_2 gb_3 gb_4 gb_5 gb_6 gb_7 gblt
    refine (Ko_eq_any _ gv vv w13.heap.size _ (Nat.le_refl _) (Qgv.out.trans Qvv.out.symm) (ogv.inn.more (by omega)) (ovv.inn.more (by omega)) (by omega)).mono ?_
    rintro e w14 ⟨rfl, hb14⟩
    have z14 := hb14.size
    have a_a := a_a.below hb14 (by omega)
    have wb := wb.below hb14 (by omega)
    have xb_a := xb_a.below hb14 (by omega)
    have gb := gb.below hb14 (by omega)
    have ovv := ovv.below (hb14.mono (by omega))
    have ogv := ogv.below (hb14.mono (by omega))
    have b14 := b13.trans (hb14.mono (by omega))
    have i_a := h_a.below b14
    clear hb14
    have a_aq := a_a
    obtain ⟨a_a_0, a_a_1, a_a_2, a_a_3, a_a_4, a_a_5, a_a_6, a_a_7⟩ := a_aq
    have a_alt : w.heap.size < w14.heap.size := (by omega)
    have wbq := wb
    obtain ⟨wb_0, wb_1, wb_2, wb_3, wb_4, wb_5, wb_6, wb_7⟩ := wbq
    have wblt : w4.heap.size < w14.heap.size := (by omega)
    have xb_aq := xb_a
    obtain ⟨xb_a_0, xb_a_1, xb_a_2, xb_a_3, xb_a_4, xb_a_5, xb_a_6, xb_a_7⟩ := xb_aq
    have xb_alt : w6.heap.size < w14.heap.size := (by omega)
    have gbq := gb
    obtain ⟨gb_0, gb_1, gb_2, gb_3, gb_4, gb_5, gb_6, gb_7⟩ := gbq
    have gblt : w8.heap.size < w14.heap.size := (by omega)
    go_wp2_with fail
    clear a_a_0 a_a_1 a_a_2 a_a_3 a_a_4 a_a_5 a_a_6 a_a_7 a_alt
    clear wb_0 wb_1 wb_2 wb_3 wb_4 wb_5 wb_6 wb_7 wblt
    clear xb_a_0 xb_a_1 xb_a_2 xb_a_3 xb_a_4 xb_a_5 xb_a_6 xb_a_7 xb_alt
    clear gb_0 gb_1 gb_2 gb_3 gb_4 gb_5 gb_6 gb_7 gblt
    refine (Ko_markT_any gv w7.heap.size w8.heap.size _ 1 (by omega) (by omega) (by omega) ogv (by omega)).mono ?_
    rintro e w15 ⟨rfl, gvm, hc15⟩
    have z15 := hc15.size
    have hl15 : ∀ k ∈ Ko.E.blks gv, w7.heap.size ≤ k ∧ k < w8.heap.size := fun k hk => ⟨ogv.lo_ _ hk, ogv.inn.blk_lt _ hk⟩
    have a_a := a_a.chg hc15 (by omega) (fun hm => by have := hl15 _ hm; omega)
    have wb := wb.chg hc15 (by omega) (fun hm => by have := hl15 _ hm; omega)
    have xb_a := xb_a.chg hc15 (by omega) (fun hm => by have := hl15 _ hm; omega)
    have gb := gb.chg hc15 (by omega) (fun hm => by have := hl15 _ hm; omega)
    have ovv := ovv.keepB (w' := w15) (fun k hk => hc15.block k (by have := ovv.inn.blk_lt _ hk; omega) (fun hm => by have := hl15 _ hm; have := ovv.inn.blk_lt _ hk; have := ovv.lo_ _ hk; omega))
    have b15 : Below w.heap.size w w15 := b14.trans (hc15.below (fun k hk => by have := hl15 _ hk; omega) (by omega))
    have i_a := h_a.below b15
    have ogv := gvm
    clear hc15 hl15 gvm
    have a_aq := a_a
    obtain ⟨a_a_0, a_a_1, a_a_2, a_a_3, a_a_4, a_a_5, a_a_6, a_a_7⟩ := a_aq
    have a_alt : w.heap.size < w15.heap.size := (by omega)
    have wbq := wb
    obtain ⟨wb_0, wb_1, wb_2, wb_3, wb_4, wb_5, wb_6, wb_7⟩ := wbq
    have wblt : w4.heap.size < w15.heap.size := (by omega)
    have xb_aq := xb_a
    obtain ⟨xb_a_0, xb_a_1, xb_a_2, xb_a_3, xb_a_4, xb_a_5, xb_a_6, xb_a_7⟩ := xb_aq
    have xb_alt : w6.heap.size < w15.heap.size := (by omega)
    have gbq := gb
    obtain ⟨gb_0, gb_1, gb_2, gb_3, gb_4, gb_5, gb_6, gb_7⟩ := gbq
    have gblt : w8.heap.size < w15.heap.size := (by omega)
    go_wp2_with fail
    clear a_a_0 a_a_1 a_a_2 a_a_3 a_a_4 a_a_5 a_a_6 a_a_7 a_alt
    clear wb_0 wb_1 wb_2 wb_3 wb_4 wb_5 wb_6 wb_7 wblt
    clear xb_a_0 xb_a_1 xb_a_2 xb_a_3 xb_a_4 xb_a_5 xb_a_6 xb_a_7 xb_alt
    clear gb_0 gb_1 gb_2 gb_3 gb_4 gb_5 gb_6 gb_7 gblt
    refine (Ko_held_any gv w7.heap.size w8.heap.size _ 1 (by omega) (by omega) (by omega) ogv (by omega)).mono ?_
    rintro e w16 ⟨rfl, hb16⟩
    have z16 := hb16.size
    have a_a := a_a.below hb16 (by omega)
    have wb := wb.below hb16 (by omega)
    have xb_a := xb_a.below hb16 (by omega)
    have gb := gb.below hb16 (by omega)
    have ovv := ovv.below (hb16.mono (by omega))
    have ogv := ogv.below (hb16.mono (by omega))
    have b16 := b15.trans (hb16.mono (by omega))
    have i_a := h_a.below b16
    clear hb16
    have n3 : ¬ (1 + (Tr.kwt gv : Int) < 0) := by omega
    have a_aq := a_a
    obtain ⟨a_a_0, a_a_1, a_a_2, a_a_3, a_a_4, a_a_5, a_a_6, a_a_7⟩ := a_aq
    have a_alt : w.heap.size < w16.heap.size := (by omega)
    have wbq := wb
    obtain ⟨wb_0, wb_1, wb_2, wb_3, wb_4, wb_5, wb_6, wb_7⟩ := wbq
    have wblt : w4.heap.size < w16.heap.size := (by omega)
    have xb_aq := xb_a
    obtain ⟨xb_a_0, xb_a_1, xb_a_2, xb_a_3, xb_a_4, xb_a_5, xb_a_6, xb_a_7⟩ := xb_aq
    have xb_alt : w6.heap.size < w16.heap.size := (by omega)
    have gbq := gb
    obtain ⟨gb_0, gb_1, gb_2, gb_3, gb_4, gb_5, gb_6, gb_7⟩ := gbq
    have gblt : w8.heap.size < w16.heap.size := (by omega)
    go_wp2_with fail
    clear a_a_0 a_a_1 a_a_2 a_a_3 a_a_4 a_a_5 a_a_6 a_a_7 a_alt
    clear wb_0 wb_1 wb_2 wb_3 wb_4 wb_5 wb_6 wb_7 wblt
    clear xb_a_0 xb_a_1 xb_a_2 xb_a_3 xb_a_4 xb_a_5 xb_a_6 xb_a_7 xb_alt
    clear gb_0 gb_1 gb_2 gb_3 gb_4 gb_5 gb_6 gb_7 gblt
    refine (Ko_to_any 2000000 a w.heap.size _ (by omega) hs_a i_a (by omega)).mono ?_
    rintro e w17 ⟨d4_a, rfl, hed4_a, od4_a, hb17⟩
    have z17 := hb17.size
    have a_a := a_a.below hb17 (by omega)
    have wb := wb.below hb17 (by omega)
    have xb_a := xb_a.below hb17 (by omega)
    have gb := gb.below hb17 (by omega)
    have ovv := ovv.below (hb17.mono (by omega))
    have ogv := ogv.below (hb17.mono (by omega))
    have b17 := b16.trans (hb17.mono (by omega))
    have i_a := h_a.below b17
    clear hb17
    have Qd4_a := Lib.hid hed4_a
    have sd4_a : d4_a.size ≤ 2000000 := (by rw [Tr.size_of_er _ _ Qd4_a.out]; exact hs_a)
    have kd4_a : d4_a.bulk Ko.bulk ≤ 1048576 := (by rw [Tr.bulk_of_er (fun _ _ => Ko.bulk_of_er) _ _ Qd4_a.out]; exact hk_a)
    clear hed4_a
    have a_aq := a_a
    obtain ⟨a_a_0, a_a_1, a_a_2, a_a_3, a_a_4, a_a_5, a_a_6, a_a_7⟩ := a_aq
    have a_alt : w.heap.size < w17.heap.size := (by omega)
    have wbq := wb
    obtain ⟨wb_0, wb_1, wb_2, wb_3, wb_4, wb_5, wb_6, wb_7⟩ := wbq
    have wblt : w4.heap.size < w17.heap.size := (by omega)
    have xb_aq := xb_a
    obtain ⟨xb_a_0, xb_a_1, xb_a_2, xb_a_3, xb_a_4, xb_a_5, xb_a_6, xb_a_7⟩ := xb_aq
    have xb_alt : w6.heap.size < w17.heap.size := (by omega)
    have gbq := gb
    obtain ⟨gb_0, gb_1, gb_2, gb_3, gb_4, gb_5, gb_6, gb_7⟩ := gbq
    have gblt : w8.heap.size < w17.heap.size := (by omega)
    go_wp2_with fail
    clear a_a_0 a_a_1 a_a_2 a_a_3 a_a_4 a_a_5 a_a_6 a_a_7 a_alt
    clear wb_0 wb_1 wb_2 wb_3 wb_4 wb_5 wb_6 wb_7 wblt
    clear xb_a_0 xb_a_1 xb_a_2 xb_a_3 xb_a_4 xb_a_5 xb_a_6 xb_a_7 xb_alt
    clear gb_0 gb_1 gb_2 gb_3 gb_4 gb_5 gb_6 gb_7 gblt
    refine (implRnC_c n d4_a w17.heap.size _ Qd4_a.out HY.out.symm HX.out.symm (od4_a.inn.more (by omega)) (by omega) hk_a).mono ?_
    rintro e w18 ⟨hv, rfl, hehv, ohv, hb18⟩
    have z18 := hb18.size
    have a_a := a_a.below hb18 (by omega)
    have wb := wb.below hb18 (by omega)
    have xb_a := xb_a.below hb18 (by omega)
    have gb := gb.below hb18 (by omega)
    have ovv := ovv.below (hb18.mono (by omega))
    have ogv := ogv.below (hb18.mono (by omega))
    have od4_a := od4_a.below (hb18.mono (by omega))
    have b18 := b17.trans (hb18.mono (by omega))
    have i_a := h_a.below b18
    clear hb18
    have Qhv := Lib.hid hehv
    have khv : hv.bulk Ko.bulk ≤ 1300000 := (by rw [Tr.bulk_of_er (f := Ko.bulk) (fun _ _ => Ko.bulk_of_er) _ _ (Qhv.out.trans HY.out), Tr.rnC_bulk]; omega)
    have wk_hv := Tr.kwt_le hv
    clear hehv
    simp only [Ko.val]
    clear od4_a
    have a_aq := a_a
    obtain ⟨a_a_0, a_a_1, a_a_2, a_a_3, a_a_4, a_a_5, a_a_6, a_a_7⟩ := a_aq
    have a_alt : w.heap.size < w18.heap.size := (by omega)
    have wbq := wb
    obtain ⟨wb_0, wb_1, wb_2, wb_3, wb_4, wb_5, wb_6, wb_7⟩ := wbq
    have wblt : w4.heap.size < w18.heap.size := (by omega)
    have xb_aq := xb_a
    obtain ⟨xb_a_0, xb_a_1, xb_a_2, xb_a_3, xb_a_4, xb_a_5, xb_a_6, xb_a_7⟩ := xb_aq
    have xb_alt : w6.heap.size < w18.heap.size := (by omega)
    have gbq := gb
    obtain ⟨gb_0, gb_1, gb_2, gb_3, gb_4, gb_5, gb_6, gb_7⟩ := gbq
    have gblt : w8.heap.size < w18.heap.size := (by omega)
    go_wp2_with fail
    clear a_a_0 a_a_1 a_a_2 a_a_3 a_a_4 a_a_5 a_a_6 a_a_7 a_alt
    clear wb_0 wb_1 wb_2 wb_3 wb_4 wb_5 wb_6 wb_7 wblt
    clear xb_a_0 xb_a_1 xb_a_2 xb_a_3 xb_a_4 xb_a_5 xb_a_6 xb_a_7 xb_alt
    clear gb_0 gb_1 gb_2 gb_3 gb_4 gb_5 gb_6 gb_7 gblt
    obtain ⟨w19, hw19⟩ : ∃ W, W = w18.alloc (.cells #[.int .i64 hv.a.k, .int .i64 hv.a.n, .slice hv.a.sA hv.a.s.length hv.a.sC, .int .i64 hv.a.d.k, .int .i64 hv.a.d.n, .string hv.a.d.t, .slice hv.a.d.A hv.a.d.l.length hv.a.d.c, .slice hv.A hv.l.length hv.c] 35) := ⟨_, rfl⟩
    rw [← hw19]
    have hb19 : Below w18.heap.size w18 w19 := by rw [hw19]; exact (Below.refl _ _).alloc (Nat.le_refl _) _
    have z19 : w18.heap.size + 1 ≤ w19.heap.size := by rw [hw19]; simp
    have y19 : w19.heap.size ≤ w18.heap.size + 1 := by rw [hw19]; simp
    have hbx : Ko.Box w19 w18.heap.size hv := by rw [hw19]; exact Ko.Box.new _ _ _
    clear hw19
    have a_a := a_a.below hb19 (by omega)
    have wb := wb.below hb19 (by omega)
    have xb_a := xb_a.below hb19 (by omega)
    have gb := gb.below hb19 (by omega)
    have ovv := ovv.below (hb19.mono (by omega))
    have ogv := ogv.below (hb19.mono (by omega))
    have ohv := ohv.below (hb19.mono (by omega))
    have b19 := b18.trans (hb19.mono (by omega))
    have i_a := h_a.below b19
    clear hb19
    refine (Ko_eq_any _ hv vv w19.heap.size _ (Nat.le_refl _) (Qhv.out.trans Qvv.out.symm) (ohv.inn.more (by omega)) (ovv.inn.more (by omega)) (by omega)).mono ?_
    rintro e w20 ⟨rfl, hb20⟩
    have z20 := hb20.size
    have a_a := a_a.below hb20 (by omega)
    have wb := wb.below hb20 (by omega)
    have xb_a := xb_a.below hb20 (by omega)
    have gb := gb.below hb20 (by omega)
    have hbx := hbx.below hb20 (by omega)
    have ovv := ovv.below (hb20.mono (by omega))
    have ogv := ogv.below (hb20.mono (by omega))
    have ohv := ohv.below (hb20.mono (by omega))
    have b20 := b19.trans (hb20.mono (by omega))
    have i_a := h_a.below b20
    clear hb20
    have a_aq := a_a
    obtain ⟨a_a_0, a_a_1, a_a_2, a_a_3, a_a_4, a_a_5, a_a_6, a_a_7⟩ := a_aq
    have a_alt : w.heap.size < w20.heap.size := (by omega)
    have wbq := wb
    obtain ⟨wb_0, wb_1, wb_2, wb_3, wb_4, wb_5, wb_6, wb_7⟩ := wbq
    have wblt : w4.heap.size < w20.heap.size := (by omega)
    have xb_aq := xb_a
    obtain ⟨xb_a_0, xb_a_1, xb_a_2, xb_a_3, xb_a_4, xb_a_5, xb_a_6, xb_a_7⟩ := xb_aq
    have xb_alt : w6.heap.size < w20.heap.size := (by omega)
    have gbq := gb
    obtain ⟨gb_0, gb_1, gb_2, gb_3, gb_4, gb_5, gb_6, gb_7⟩ := gbq
    have gblt : w8.heap.size < w20.heap.size := (by omega)
    have hbxq := hbx
    obtain ⟨hbx_0, hbx_1, hbx_2, hbx_3, hbx_4, hbx_5, hbx_6, hbx_7⟩ := hbxq
    have hbxlt : w18.heap.size < w20.heap.size := (by omega)
    go_wp2_with fail
    clear a_a_0 a_a_1 a_a_2 a_a_3 a_a_4 a_a_5 a_a_6 a_a_7 a_alt
    clear wb_0 wb_1 wb_2 wb_3 wb_4 wb_5 wb_6 wb_7 wblt
    clear xb_a_0 xb_a_1 xb_a_2 xb_a_3 xb_a_4 xb_a_5 xb_a_6 xb_a_7 xb_alt
    clear gb_0 gb_1 gb_2 gb_3 gb_4 gb_5 gb_6 gb_7 gblt
    clear hbx_0 hbx_1 hbx_2 hbx_3 hbx_4 hbx_5 hbx_6 hbx_7 hbxlt
    refine (Ko_held_any gv w7.heap.size w8.heap.size _ 1 (by omega) (by omega) (by omega) ogv (by omega)).mono ?_
    rintro e w21 ⟨rfl, hb21⟩
    have z21 := hb21.size
    have a_a := a_a.below hb21 (by omega)
    have wb := wb.below hb21 (by omega)
    have xb_a := xb_a.below hb21 (by omega)
    have gb := gb.below hb21 (by omega)
    have hbx := hbx.below hb21 (by omega)
    have ovv := ovv.below (hb21.mono (by omega))
    have ogv := ogv.below (hb21.mono (by omega))
    have ohv := ohv.below (hb21.mono (by omega))
    have b21 := b20.trans (hb21.mono (by omega))
    have i_a := h_a.below b21
    clear hb21
    have a_aq := a_a
    obtain ⟨a_a_0, a_a_1, a_a_2, a_a_3, a_a_4, a_a_5, a_a_6, a_a_7⟩ := a_aq
    have a_alt : w.heap.size < w21.heap.size := (by omega)
    have wbq := wb
    obtain ⟨wb_0, wb_1, wb_2, wb_3, wb_4, wb_5, wb_6, wb_7⟩ := wbq
    have wblt : w4.heap.size < w21.heap.size := (by omega)
    have xb_aq := xb_a
    obtain ⟨xb_a_0, xb_a_1, xb_a_2, xb_a_3, xb_a_4, xb_a_5, xb_a_6, xb_a_7⟩ := xb_aq
    have xb_alt : w6.heap.size < w21.heap.size := (by omega)
    have gbq := gb
    obtain ⟨gb_0, gb_1, gb_2, gb_3, gb_4, gb_5, gb_6, gb_7⟩ := gbq
    have gblt : w8.heap.size < w21.heap.size := (by omega)
    have hbxq := hbx
    obtain ⟨hbx_0, hbx_1, hbx_2, hbx_3, hbx_4, hbx_5, hbx_6, hbx_7⟩ := hbxq
    have hbxlt : w18.heap.size < w21.heap.size := (by omega)
    go_wp2_with fail
    clear a_a_0 a_a_1 a_a_2 a_a_3 a_a_4 a_a_5 a_a_6 a_a_7 a_alt
    clear wb_0 wb_1 wb_2 wb_3 wb_4 wb_5 wb_6 wb_7 wblt
    clear xb_a_0 xb_a_1 xb_a_2 xb_a_3 xb_a_4 xb_a_5 xb_a_6 xb_a_7 xb_alt
    clear gb_0 gb_1 gb_2 gb_3 gb_4 gb_5 gb_6 gb_7 gblt
    clear hbx_0 hbx_1 hbx_2 hbx_3 hbx_4 hbx_5 hbx_6 hbx_7 hbxlt
    go_ret
    exact ⟨rfl, b21⟩
  · have b0 : Below w.heap.size w w := Below.refl _ _
    have i_a := h_a
    go_enter Tryz.func3, Tryz.ntmps3
    go_wp2_with fail
    obtain ⟨w1, hw1⟩ : ∃ W, W = w.alloc (.cells #[.int .i64 a.a.k, .int .i64 a.a.n, .slice a.a.sA a.a.s.length a.a.sC, .int .i64 a.a.d.k, .int .i64 a.a.d.n, .string a.a.d.t, .slice a.a.d.A a.a.d.l.length a.a.d.c, .slice a.A a.l.length a.c] 28) := ⟨_, rfl⟩
    rw [← hw1]
    have hb1 : Below w.heap.size w w1 := by rw [hw1]; exact (Below.refl _ _).alloc (Nat.le_refl _) _
    have z1 : w.heap.size + 1 ≤ w1.heap.size := by rw [hw1]; simp
    have y1 : w1.heap.size ≤ w.heap.size + 1 := by rw [hw1]; simp
    have a_a : Ko.Box w1 w.heap.size a := by rw [hw1]; exact Ko.Box.new _ _ _
    clear hw1
    have b1 := b0.trans (hb1.mono (by omega))
    have i_a := h_a.below b1
    clear hb1
    refine (Ko_sz_any (a.size + 1) a w.heap.size _ 1048576 (by omega) (by omega) (by omega) i_a (by omega)).mono ?_
    rintro e w2 ⟨rfl, hb2⟩
    have z2 := hb2.size
    have a_a := a_a.below hb2 (by omega)
    have b2 := b1.trans (hb2.mono (by omega))
    have i_a := h_a.below b2
    clear hb2
    rw [szR_no (by omega)]
    have a_aq := a_a
    obtain ⟨a_a_0, a_a_1, a_a_2, a_a_3, a_a_4, a_a_5, a_a_6, a_a_7⟩ := a_aq
    have a_alt : w.heap.size < w2.heap.size := (by omega)
    go_wp2_with fail
    clear a_a_0 a_a_1 a_a_2 a_a_3 a_a_4 a_a_5 a_a_6 a_a_7 a_alt
    go_ret
    exact ⟨rfl, b2⟩
end Go.Proofs.YtpigpncbjckbcaaGreat
