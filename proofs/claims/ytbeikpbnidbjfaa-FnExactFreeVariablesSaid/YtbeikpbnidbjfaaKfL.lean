/-
  The law on FreeVariables, walked.
-/
import Derived.Test.YtbeikpbnidbjfaaKoH
import Derived.Test.YtbeikpbnidbjfaaKoM
import Derived.Test.YtbeikpbnidbjfaaIntE
import Derived.Deep.RegionHeld3
namespace Go.Proofs.Ytbeikpbnidbjfaa
open Go.RowKit

set_option maxRecDepth 100000 in
set_option maxHeartbeats 2000000 in
theorem law_kf (a : Tr Ko) (w : World) (h_a : Ko.E.In w w.heap.size a) : Calls Try.prog 6 #[Ko.val a] w fun e w' => e = .returned (.bool true) ∧ Below w.heap.size w w' := by
  unfold Ko.val
  by_cases hz_a : (a.bulk Ko.bulk : Int) ≤ 1048576
  · have hs_a : a.size ≤ 2000000 := by have := Tr.size_le_bulk Ko.bulk a; omega
    have hk_a : a.bulk Ko.bulk ≤ 1048576 := by omega
    have hT : (a.free [] []).length ≤ 2000000 := by have := Ko.freeV_len a; (try simp only [List.length_nil] at this); omega
    have b0 : Below w.heap.size w w := Below.refl _ _
    have i_a := h_a
    go_enter Try.func6, Try.ntmps6
    go_wp2_with fail
    obtain ⟨w1, hw1⟩ : ∃ W, W = w.alloc (.cells #[.int .i64 a.a.k, .int .i64 a.a.n, .slice a.a.sA a.a.s.length a.a.sC, .int .i64 a.a.d.k, .int .i64 a.a.d.n, .string a.a.d.t, .slice a.a.d.A a.a.d.l.length a.a.d.c, .slice a.A a.l.length a.c] 28) := ⟨_, rfl⟩
    rw [← hw1]
    have hb1 : Below w.heap.size w w1 := by rw [hw1]; exact (Below.refl _ _).alloc (Nat.le_refl _) _
    have z1 : w.heap.size + 1 ≤ w1.heap.size := by rw [hw1]; simp
    have y1 : w1.heap.size ≤ w.heap.size + 1 := by rw [hw1]; simp
    have a_a : Ko.Box w1 w.heap.size a := by rw [hw1]; exact Ko.Box.new _ _ _
    clear hw1
    have b1 := b0.trans (hb1.mono (by omega))
    have i_a := h_a.below b1
    clear hb1
    refine (Ko_sz_any 2000000 a w.heap.size _ 1048576 hs_a (by omega) (by omega) i_a (by omega)).mono ?_
    rintro e w2 ⟨rfl, hb2⟩
    have z2 := hb2.size
    have a_a := a_a.below hb2 (by omega)
    have b2 := b1.trans (hb2.mono (by omega))
    have i_a := h_a.below b2
    clear hb2
    rw [szR_yes (by omega)]
    have n1_a : ¬ (1048576 - (a.bulk Ko.bulk : Int) < 0) := by omega
    have a_aq := a_a
    obtain ⟨a_a_0, a_a_1, a_a_2, a_a_3, a_a_4, a_a_5, a_a_6, a_a_7⟩ := a_aq
    have a_alt : w.heap.size < w2.heap.size := (by omega)
    go_wp2_with fail
    clear a_a_0 a_a_1 a_a_2 a_a_3 a_a_4 a_a_5 a_a_6 a_a_7 a_alt
    refine (Ko_to_any 2000000 a w.heap.size _ (by omega) hs_a i_a (by omega)).mono ?_
    rintro e w3 ⟨d1_a, rfl, hed1_a, od1_a, hb3⟩
    have z3 := hb3.size
    have a_a := a_a.below hb3 (by omega)
    have b3 := b2.trans (hb3.mono (by omega))
    have i_a := h_a.below b3
    clear hb3
    have Qd1_a := Lib.hid hed1_a
    have sd1_a : d1_a.size ≤ 2000000 := (by rw [Tr.size_of_er _ _ Qd1_a.out]; exact hs_a)
    have kd1_a : d1_a.bulk Ko.bulk ≤ 1048576 := (by rw [Tr.bulk_of_er (fun _ _ => Ko.bulk_of_er) _ _ Qd1_a.out]; exact hk_a)
    clear hed1_a
    have a_aq := a_a
    obtain ⟨a_a_0, a_a_1, a_a_2, a_a_3, a_a_4, a_a_5, a_a_6, a_a_7⟩ := a_aq
    have a_alt : w.heap.size < w3.heap.size := (by omega)
    go_wp2_with fail
    clear a_a_0 a_a_1 a_a_2 a_a_3 a_a_4 a_a_5 a_a_6 a_a_7 a_alt
    have hc := specFreV_any d1_a w3.heap.size _ (od1_a.inn.more (by omega)) (by omega) (by omega)
    rw [Tr.free_of_er _ _ Qd1_a.out [] []] at hc
    refine hc.mono ?_
    clear hc
    rintro e w4 ⟨vvA, vvc, rfl, ovv, hb4⟩
    have z4 := hb4.size
    have a_a := a_a.below hb4 (by omega)
    have od1_a := od1_a.below (hb4.mono (by omega))
    have b4 := b3.trans (hb4.mono (by omega))
    have i_a := h_a.below b4
    clear hb4
    clear od1_a
    have a_aq := a_a
    obtain ⟨a_a_0, a_a_1, a_a_2, a_a_3, a_a_4, a_a_5, a_a_6, a_a_7⟩ := a_aq
    have a_alt : w.heap.size < w4.heap.size := (by omega)
    go_wp2_with fail
    clear a_a_0 a_a_1 a_a_2 a_a_3 a_a_4 a_a_5 a_a_6 a_a_7 a_alt
    refine (Ko_to_any 2000000 a w.heap.size _ (by omega) hs_a i_a (by omega)).mono ?_
    rintro e w5 ⟨x_a, rfl, hex_a, ox_a, hb5⟩
    have z5 := hb5.size
    have a_a := a_a.below hb5 (by omega)
    have ovv := ovv.below (hb5.mono (by omega))
    have b5 := b4.trans (hb5.mono (by omega))
    have i_a := h_a.below b5
    clear hb5
    have Qx_a := Lib.hid hex_a
    have sx_a : x_a.size ≤ 2000000 := (by rw [Tr.size_of_er _ _ Qx_a.out]; exact hs_a)
    have kx_a : x_a.bulk Ko.bulk ≤ 1048576 := (by rw [Tr.bulk_of_er (fun _ _ => Ko.bulk_of_er) _ _ Qx_a.out]; exact hk_a)
    clear hex_a
    simp only [Ko.val]
    have a_aq := a_a
    obtain ⟨a_a_0, a_a_1, a_a_2, a_a_3, a_a_4, a_a_5, a_a_6, a_a_7⟩ := a_aq
    have a_alt : w.heap.size < w5.heap.size := (by omega)
    go_wp2_with fail
    clear a_a_0 a_a_1 a_a_2 a_a_3 a_a_4 a_a_5 a_a_6 a_a_7 a_alt
    obtain ⟨w6, hw6⟩ : ∃ W, W = w5.alloc (.cells #[.int .i64 x_a.a.k, .int .i64 x_a.a.n, .slice x_a.a.sA x_a.a.s.length x_a.a.sC, .int .i64 x_a.a.d.k, .int .i64 x_a.a.d.n, .string x_a.a.d.t, .slice x_a.a.d.A x_a.a.d.l.length x_a.a.d.c, .slice x_a.A x_a.l.length x_a.c] 36) := ⟨_, rfl⟩
    rw [← hw6]
    have hb6 : Below w5.heap.size w5 w6 := by rw [hw6]; exact (Below.refl _ _).alloc (Nat.le_refl _) _
    have z6 : w5.heap.size + 1 ≤ w6.heap.size := by rw [hw6]; simp
    have y6 : w6.heap.size ≤ w5.heap.size + 1 := by rw [hw6]; simp
    have xb_a : Ko.Box w6 w5.heap.size x_a := by rw [hw6]; exact Ko.Box.new _ _ _
    clear hw6
    have a_a := a_a.below hb6 (by omega)
    have ovv := ovv.below (hb6.mono (by omega))
    have ox_a := ox_a.below (hb6.mono (by omega))
    have b6 := b5.trans (hb6.mono (by omega))
    have i_a := h_a.below b6
    clear hb6
    have hc := implFre_any x_a w6.heap.size _ (ox_a.inn.more (by omega)) (by omega) (by omega)
    rw [Tr.free_of_er _ _ Qx_a.out [] []] at hc
    refine hc.mono ?_
    clear hc
    rintro e w7 ⟨gvA, gvc, rfl, ogv, hb7⟩
    have z7 := hb7.size
    have a_a := a_a.below hb7 (by omega)
    have xb_a := xb_a.below hb7 (by omega)
    have ovv := ovv.below (hb7.mono (by omega))
    have ox_a := ox_a.below (hb7.mono (by omega))
    have b7 := b6.trans (hb7.mono (by omega))
    have i_a := h_a.below b7
    clear hb7
    have a_aq := a_a
    obtain ⟨a_a_0, a_a_1, a_a_2, a_a_3, a_a_4, a_a_5, a_a_6, a_a_7⟩ := a_aq
    have a_alt : w.heap.size < w7.heap.size := (by omega)
    have xb_aq := xb_a
    obtain ⟨xb_a_0, xb_a_1, xb_a_2, xb_a_3, xb_a_4, xb_a_5, xb_a_6, xb_a_7⟩ := xb_aq
    have xb_alt : w5.heap.size < w7.heap.size := (by omega)
    go_wp2_with fail
    clear a_a_0 a_a_1 a_a_2 a_a_3 a_a_4 a_a_5 a_a_6 a_a_7 a_alt
    clear xb_a_0 xb_a_1 xb_a_2 xb_a_3 xb_a_4 xb_a_5 xb_a_6 xb_a_7 xb_alt
    refine (eqI_same gvA gvc (a.free [] []) vvA vvc w7.heap.size _ (ogv.inn.more (by omega)) (ovv.inn.more (by omega)) (by omega)).mono ?_
    rintro e w8 ⟨rfl, hb8⟩
    have z8 := hb8.size
    have a_a := a_a.below hb8 (by omega)
    have xb_a := xb_a.below hb8 (by omega)
    have ovv := ovv.below (hb8.mono (by omega))
    have ox_a := ox_a.below (hb8.mono (by omega))
    have ogv := ogv.below (hb8.mono (by omega))
    have b8 := b7.trans (hb8.mono (by omega))
    have i_a := h_a.below b8
    clear hb8
    have a_aq := a_a
    obtain ⟨a_a_0, a_a_1, a_a_2, a_a_3, a_a_4, a_a_5, a_a_6, a_a_7⟩ := a_aq
    have a_alt : w.heap.size < w8.heap.size := (by omega)
    have xb_aq := xb_a
    obtain ⟨xb_a_0, xb_a_1, xb_a_2, xb_a_3, xb_a_4, xb_a_5, xb_a_6, xb_a_7⟩ := xb_aq
    have xb_alt : w5.heap.size < w8.heap.size := (by omega)
    go_wp2_with fail
    clear a_a_0 a_a_1 a_a_2 a_a_3 a_a_4 a_a_5 a_a_6 a_a_7 a_alt
    clear xb_a_0 xb_a_1 xb_a_2 xb_a_3 xb_a_4 xb_a_5 xb_a_6 xb_a_7 xb_alt
    have a_aq := a_a
    obtain ⟨a_a_0, a_a_1, a_a_2, a_a_3, a_a_4, a_a_5, a_a_6, a_a_7⟩ := a_aq
    have a_alt : w.heap.size < w8.heap.size := (by omega)
    have xb_aq := xb_a
    obtain ⟨xb_a_0, xb_a_1, xb_a_2, xb_a_3, xb_a_4, xb_a_5, xb_a_6, xb_a_7⟩ := xb_aq
    have xb_alt : w5.heap.size < w8.heap.size := (by omega)
    have tok0 : True := trivial
    have tok1 : True := trivial
    go_region_held3 (fun w' => w'.cell? ⟨w.heap.size, 0, none⟩ = some (.int .i64 a.a.k) ∧ w'.cell? ⟨w.heap.size, 1, none⟩ = some (.int .i64 a.a.n) ∧ w'.cell? ⟨w.heap.size, 2, none⟩ = some (.slice a.a.sA a.a.s.length a.a.sC) ∧ w'.cell? ⟨w.heap.size, 3, none⟩ = some (.int .i64 a.a.d.k) ∧ w'.cell? ⟨w.heap.size, 4, none⟩ = some (.int .i64 a.a.d.n) ∧ w'.cell? ⟨w.heap.size, 5, none⟩ = some (.string a.a.d.t) ∧ w'.cell? ⟨w.heap.size, 6, none⟩ = some (.slice a.a.d.A a.a.d.l.length a.a.d.c) ∧ w'.cell? ⟨w.heap.size, 7, none⟩ = some (.slice a.A a.l.length a.c) ∧ w'.cell? ⟨w5.heap.size, 0, none⟩ = some (.int .i64 x_a.a.k) ∧ w'.cell? ⟨w5.heap.size, 1, none⟩ = some (.int .i64 x_a.a.n) ∧ w'.cell? ⟨w5.heap.size, 2, none⟩ = some (.slice x_a.a.sA x_a.a.s.length x_a.a.sC) ∧ w'.cell? ⟨w5.heap.size, 3, none⟩ = some (.int .i64 x_a.a.d.k) ∧ w'.cell? ⟨w5.heap.size, 4, none⟩ = some (.int .i64 x_a.a.d.n) ∧ w'.cell? ⟨w5.heap.size, 5, none⟩ = some (.string x_a.a.d.t) ∧ w'.cell? ⟨w5.heap.size, 6, none⟩ = some (.slice x_a.a.d.A x_a.a.d.l.length x_a.a.d.c) ∧ w'.cell? ⟨w5.heap.size, 7, none⟩ = some (.slice x_a.A x_a.l.length x_a.c)) (go_keep)
      (first
        | (go_at_call 16; have _t := tok0; refine (Ko_to_any 2000000 a w.heap.size _ ?_ hs_a ?_ ?_).mono ?_; omega; exact i_a.drew; (show w.heap.size ≤ w8.heap.size); omega; rintro e w9 ⟨y_a, rfl, hey_a, oy_a, hb9⟩; have hb9 : Below w8.heap.size w8 w9 := below_undrew hb9; have z9 : w8.heap.size ≤ w9.heap.size := hb9.size; clear tok0; have Qy_a := Lib.hid hey_a; clear hey_a; have a_a := a_a.below hb9 (by omega); have xb_a := xb_a.below hb9 (by omega); have ovv := ovv.below (hb9.mono (by omega)); have ox_a := ox_a.below (hb9.mono (by omega)); have ogv := ogv.below (hb9.mono (by omega)); have b9 := b8.trans (hb9.mono (by omega)); have i_a := h_a.below b9; clear hb9; have a_aq := a_a; obtain ⟨a_a_0, a_a_1, a_a_2, a_a_3, a_a_4, a_a_5, a_a_6, a_a_7⟩ := a_aq; have a_alt : w.heap.size < w9.heap.size := (by omega); have xb_aq := xb_a; obtain ⟨xb_a_0, xb_a_1, xb_a_2, xb_a_3, xb_a_4, xb_a_5, xb_a_6, xb_a_7⟩ := xb_aq; have xb_alt : w5.heap.size < w9.heap.size := (by omega))
        | (go_at_call 18; have _t := tok1; refine (Ko_eq_any _ x_a y_a w9.heap.size _ (Nat.le_refl _) (Qx_a.out.trans Qy_a.out.symm) ?_ ?_ ?_).mono ?_; exact ox_a.inn.more (by omega); exact oy_a.inn.more (by omega); omega; rintro e w10 ⟨rfl, hb10⟩; have z10 : w9.heap.size ≤ w10.heap.size := hb10.size; clear tok1; have a_a := a_a.below hb10 (by omega); have xb_a := xb_a.below hb10 (by omega); have ovv := ovv.below (hb10.mono (by omega)); have ox_a := ox_a.below (hb10.mono (by omega)); have ogv := ogv.below (hb10.mono (by omega)); have b10 := b9.trans (hb10.mono (by omega)); have i_a := h_a.below b10; clear hb10; have a_aq := a_a; obtain ⟨a_a_0, a_a_1, a_a_2, a_a_3, a_a_4, a_a_5, a_a_6, a_a_7⟩ := a_aq; have a_alt : w.heap.size < w10.heap.size := (by omega); have xb_aq := xb_a; obtain ⟨xb_a_0, xb_a_1, xb_a_2, xb_a_3, xb_a_4, xb_a_5, xb_a_6, xb_a_7⟩ := xb_aq; have xb_alt : w5.heap.size < w10.heap.size := (by omega)))
    clear a_a_0 a_a_1 a_a_2 a_a_3 a_a_4 a_a_5 a_a_6 a_a_7 a_alt
    clear xb_a_0 xb_a_1 xb_a_2 xb_a_3 xb_a_4 xb_a_5 xb_a_6 xb_a_7 xb_alt
    clear oy_a
    have a_aq := a_a
    obtain ⟨a_a_0, a_a_1, a_a_2, a_a_3, a_a_4, a_a_5, a_a_6, a_a_7⟩ := a_aq
    have a_alt : w.heap.size < w10.heap.size := (by omega)
    have xb_aq := xb_a
    obtain ⟨xb_a_0, xb_a_1, xb_a_2, xb_a_3, xb_a_4, xb_a_5, xb_a_6, xb_a_7⟩ := xb_aq
    have xb_alt : w5.heap.size < w10.heap.size := (by omega)
    go_wp2_with fail
    clear a_a_0 a_a_1 a_a_2 a_a_3 a_a_4 a_a_5 a_a_6 a_a_7 a_alt
    clear xb_a_0 xb_a_1 xb_a_2 xb_a_3 xb_a_4 xb_a_5 xb_a_6 xb_a_7 xb_alt
    refine (Ko_mark_any x_a w4.heap.size w5.heap.size _ 1 (by omega) (by omega) (by omega) ox_a (by omega)).mono ?_
    rintro e w11 ⟨rfl, x_am, hc11⟩
    have z11 := hc11.size
    have hl11 : ∀ k ∈ Ko.E.blks x_a, w4.heap.size ≤ k ∧ k < w5.heap.size := fun k hk => ⟨ox_a.lo_ _ hk, ox_a.inn.blk_lt _ hk⟩
    have a_a := a_a.chg hc11 (by omega) (fun hm => by have := hl11 _ hm; omega)
    have xb_a := xb_a.chg hc11 (by omega) (fun hm => by have := hl11 _ hm; omega)
    have ovv := ovv.keep (w' := w11) (fun k hk => hc11.block k (by have := ovv.inn.blk_lt _ hk; omega) (fun hm => by have := hl11 _ hm; have := ovv.inn.blk_lt _ hk; have := ovv.lo_ _ hk; omega))
    have ogv := ogv.keep (w' := w11) (fun k hk => hc11.block k (by have := ogv.inn.blk_lt _ hk; omega) (fun hm => by have := hl11 _ hm; have := ogv.inn.blk_lt _ hk; have := ogv.lo_ _ hk; omega))
    have b11 : Below w.heap.size w w11 := b10.trans (hc11.below (fun k hk => by have := hl11 _ hk; omega) (by omega))
    have i_a := h_a.below b11
    have ox_a := x_am
    clear hc11 hl11 x_am
    have n2_a : ¬ (1 + (Tr.kwt x_a : Int) < 0) := by omega
    clear ox_a
    have a_aq := a_a
    obtain ⟨a_a_0, a_a_1, a_a_2, a_a_3, a_a_4, a_a_5, a_a_6, a_a_7⟩ := a_aq
    have a_alt : w.heap.size < w11.heap.size := (by omega)
    have xb_aq := xb_a
    obtain ⟨xb_a_0, xb_a_1, xb_a_2, xb_a_3, xb_a_4, xb_a_5, xb_a_6, xb_a_7⟩ := xb_aq
    have xb_alt : w5.heap.size < w11.heap.size := (by omega)
    go_wp2_with fail
    clear a_a_0 a_a_1 a_a_2 a_a_3 a_a_4 a_a_5 a_a_6 a_a_7 a_alt
    clear xb_a_0 xb_a_1 xb_a_2 xb_a_3 xb_a_4 xb_a_5 xb_a_6 xb_a_7 xb_alt
    refine (eqI_same gvA gvc (a.free [] []) vvA vvc w11.heap.size _ (ogv.inn.more (by omega)) (ovv.inn.more (by omega)) (by omega)).mono ?_
    rintro e w12 ⟨rfl, hb12⟩
    have z12 := hb12.size
    have a_a := a_a.below hb12 (by omega)
    have xb_a := xb_a.below hb12 (by omega)
    have ovv := ovv.below (hb12.mono (by omega))
    have ogv := ogv.below (hb12.mono (by omega))
    have b12 := b11.trans (hb12.mono (by omega))
    have i_a := h_a.below b12
    clear hb12
    have a_aq := a_a
    obtain ⟨a_a_0, a_a_1, a_a_2, a_a_3, a_a_4, a_a_5, a_a_6, a_a_7⟩ := a_aq
    have a_alt : w.heap.size < w12.heap.size := (by omega)
    have xb_aq := xb_a
    obtain ⟨xb_a_0, xb_a_1, xb_a_2, xb_a_3, xb_a_4, xb_a_5, xb_a_6, xb_a_7⟩ := xb_aq
    have xb_alt : w5.heap.size < w12.heap.size := (by omega)
    go_wp2_with fail
    clear a_a_0 a_a_1 a_a_2 a_a_3 a_a_4 a_a_5 a_a_6 a_a_7 a_alt
    clear xb_a_0 xb_a_1 xb_a_2 xb_a_3 xb_a_4 xb_a_5 xb_a_6 xb_a_7 xb_alt
    refine (markI_any gvA gvc (a.free [] []) w6.heap.size w7.heap.size _ 1 hT (by omega) (by omega) ogv).mono ?_
    rintro e w13 ⟨rfl, gvm, hc13⟩
    have z13 := hc13.size
    have hl13 : ∀ k ∈ iblk gvA (a.free [] []), w6.heap.size ≤ k ∧ k < w7.heap.size := fun k hk => ⟨ogv.lo_ _ hk, ogv.inn.blk_lt _ hk⟩
    have a_a := a_a.chg hc13 (by omega) (fun hm => by have := hl13 _ hm; omega)
    have xb_a := xb_a.chg hc13 (by omega) (fun hm => by have := hl13 _ hm; omega)
    have ovv := ovv.keep (w' := w13) (fun k hk => hc13.block k (by have := ovv.inn.blk_lt _ hk; omega) (fun hm => by have := hl13 _ hm; have := ovv.inn.blk_lt _ hk; have := ovv.lo_ _ hk; omega))
    have b13 : Below w.heap.size w w13 := b12.trans (hc13.below (fun k hk => by have := hl13 _ hk; omega) (by omega))
    have i_a := h_a.below b13
    have ogv := gvm
    clear hc13 hl13 gvm
    have a_aq := a_a
    obtain ⟨a_a_0, a_a_1, a_a_2, a_a_3, a_a_4, a_a_5, a_a_6, a_a_7⟩ := a_aq
    have a_alt : w.heap.size < w13.heap.size := (by omega)
    have xb_aq := xb_a
    obtain ⟨xb_a_0, xb_a_1, xb_a_2, xb_a_3, xb_a_4, xb_a_5, xb_a_6, xb_a_7⟩ := xb_aq
    have xb_alt : w5.heap.size < w13.heap.size := (by omega)
    go_wp2_with fail
    clear a_a_0 a_a_1 a_a_2 a_a_3 a_a_4 a_a_5 a_a_6 a_a_7 a_alt
    clear xb_a_0 xb_a_1 xb_a_2 xb_a_3 xb_a_4 xb_a_5 xb_a_6 xb_a_7 xb_alt
    refine (heldI_b gvA gvc (a.free [] []) w7.heap.size _ 1 hT (by omega) (by omega) ogv.inn).mono ?_
    rintro e w14 ⟨rfl, hb14⟩
    have z14 := hb14.size
    have a_a := a_a.below hb14 (by omega)
    have xb_a := xb_a.below hb14 (by omega)
    have ovv := ovv.below (hb14.mono (by omega))
    have ogv := ogv.below (hb14.mono (by omega))
    have b14 := b13.trans (hb14.mono (by omega))
    have i_a := h_a.below b14
    clear hb14
    have n3 : ¬ (1 + ((a.free [] []).length : Int) < 0) := by omega
    have a_aq := a_a
    obtain ⟨a_a_0, a_a_1, a_a_2, a_a_3, a_a_4, a_a_5, a_a_6, a_a_7⟩ := a_aq
    have a_alt : w.heap.size < w14.heap.size := (by omega)
    have xb_aq := xb_a
    obtain ⟨xb_a_0, xb_a_1, xb_a_2, xb_a_3, xb_a_4, xb_a_5, xb_a_6, xb_a_7⟩ := xb_aq
    have xb_alt : w5.heap.size < w14.heap.size := (by omega)
    go_wp2_with fail
    clear a_a_0 a_a_1 a_a_2 a_a_3 a_a_4 a_a_5 a_a_6 a_a_7 a_alt
    clear xb_a_0 xb_a_1 xb_a_2 xb_a_3 xb_a_4 xb_a_5 xb_a_6 xb_a_7 xb_alt
    refine (Ko_to_any 2000000 a w.heap.size _ (by omega) hs_a i_a (by omega)).mono ?_
    rintro e w15 ⟨d4_a, rfl, hed4_a, od4_a, hb15⟩
    have z15 := hb15.size
    have a_a := a_a.below hb15 (by omega)
    have xb_a := xb_a.below hb15 (by omega)
    have ovv := ovv.below (hb15.mono (by omega))
    have ogv := ogv.below (hb15.mono (by omega))
    have b15 := b14.trans (hb15.mono (by omega))
    have i_a := h_a.below b15
    clear hb15
    have Qd4_a := Lib.hid hed4_a
    have sd4_a : d4_a.size ≤ 2000000 := (by rw [Tr.size_of_er _ _ Qd4_a.out]; exact hs_a)
    have kd4_a : d4_a.bulk Ko.bulk ≤ 1048576 := (by rw [Tr.bulk_of_er (fun _ _ => Ko.bulk_of_er) _ _ Qd4_a.out]; exact hk_a)
    clear hed4_a
    have a_aq := a_a
    obtain ⟨a_a_0, a_a_1, a_a_2, a_a_3, a_a_4, a_a_5, a_a_6, a_a_7⟩ := a_aq
    have a_alt : w.heap.size < w15.heap.size := (by omega)
    have xb_aq := xb_a
    obtain ⟨xb_a_0, xb_a_1, xb_a_2, xb_a_3, xb_a_4, xb_a_5, xb_a_6, xb_a_7⟩ := xb_aq
    have xb_alt : w5.heap.size < w15.heap.size := (by omega)
    go_wp2_with fail
    clear a_a_0 a_a_1 a_a_2 a_a_3 a_a_4 a_a_5 a_a_6 a_a_7 a_alt
    clear xb_a_0 xb_a_1 xb_a_2 xb_a_3 xb_a_4 xb_a_5 xb_a_6 xb_a_7 xb_alt
    have hc := implFre_any d4_a w15.heap.size _ (od4_a.inn.more (by omega)) (by omega) (by omega)
    rw [Tr.free_of_er _ _ Qd4_a.out [] []] at hc
    refine hc.mono ?_
    clear hc
    rintro e w16 ⟨hvA, hvc, rfl, ohv, hb16⟩
    have z16 := hb16.size
    have a_a := a_a.below hb16 (by omega)
    have xb_a := xb_a.below hb16 (by omega)
    have ovv := ovv.below (hb16.mono (by omega))
    have ogv := ogv.below (hb16.mono (by omega))
    have od4_a := od4_a.below (hb16.mono (by omega))
    have b16 := b15.trans (hb16.mono (by omega))
    have i_a := h_a.below b16
    clear hb16
    clear od4_a
    have a_aq := a_a
    obtain ⟨a_a_0, a_a_1, a_a_2, a_a_3, a_a_4, a_a_5, a_a_6, a_a_7⟩ := a_aq
    have a_alt : w.heap.size < w16.heap.size := (by omega)
    have xb_aq := xb_a
    obtain ⟨xb_a_0, xb_a_1, xb_a_2, xb_a_3, xb_a_4, xb_a_5, xb_a_6, xb_a_7⟩ := xb_aq
    have xb_alt : w5.heap.size < w16.heap.size := (by omega)
    go_wp2_with fail
    clear a_a_0 a_a_1 a_a_2 a_a_3 a_a_4 a_a_5 a_a_6 a_a_7 a_alt
    clear xb_a_0 xb_a_1 xb_a_2 xb_a_3 xb_a_4 xb_a_5 xb_a_6 xb_a_7 xb_alt
    refine (eqI_same hvA hvc (a.free [] []) vvA vvc w16.heap.size _ (ohv.inn.more (by omega)) (ovv.inn.more (by omega)) (by omega)).mono ?_
    rintro e w17 ⟨rfl, hb17⟩
    have z17 := hb17.size
    have a_a := a_a.below hb17 (by omega)
    have xb_a := xb_a.below hb17 (by omega)
    have ovv := ovv.below (hb17.mono (by omega))
    have ogv := ogv.below (hb17.mono (by omega))
    have ohv := ohv.below (hb17.mono (by omega))
    have b17 := b16.trans (hb17.mono (by omega))
    have i_a := h_a.below b17
    clear hb17
    have a_aq := a_a
    obtain ⟨a_a_0, a_a_1, a_a_2, a_a_3, a_a_4, a_a_5, a_a_6, a_a_7⟩ := a_aq
    have a_alt : w.heap.size < w17.heap.size := (by omega)
    have xb_aq := xb_a
    obtain ⟨xb_a_0, xb_a_1, xb_a_2, xb_a_3, xb_a_4, xb_a_5, xb_a_6, xb_a_7⟩ := xb_aq
    have xb_alt : w5.heap.size < w17.heap.size := (by omega)
    go_wp2_with fail
    clear a_a_0 a_a_1 a_a_2 a_a_3 a_a_4 a_a_5 a_a_6 a_a_7 a_alt
    clear xb_a_0 xb_a_1 xb_a_2 xb_a_3 xb_a_4 xb_a_5 xb_a_6 xb_a_7 xb_alt
    refine (heldI_b gvA gvc (a.free [] []) w7.heap.size _ 1 hT (by omega) (by omega) ogv.inn).mono ?_
    rintro e w18 ⟨rfl, hb18⟩
    have z18 := hb18.size
    have a_a := a_a.below hb18 (by omega)
    have xb_a := xb_a.below hb18 (by omega)
    have ovv := ovv.below (hb18.mono (by omega))
    have ogv := ogv.below (hb18.mono (by omega))
    have ohv := ohv.below (hb18.mono (by omega))
    have b18 := b17.trans (hb18.mono (by omega))
    have i_a := h_a.below b18
    clear hb18
    have a_aq := a_a
    obtain ⟨a_a_0, a_a_1, a_a_2, a_a_3, a_a_4, a_a_5, a_a_6, a_a_7⟩ := a_aq
    have a_alt : w.heap.size < w18.heap.size := (by omega)
    have xb_aq := xb_a
    obtain ⟨xb_a_0, xb_a_1, xb_a_2, xb_a_3, xb_a_4, xb_a_5, xb_a_6, xb_a_7⟩ := xb_aq
    have xb_alt : w5.heap.size < w18.heap.size := (by omega)
    go_wp2_with fail
    clear a_a_0 a_a_1 a_a_2 a_a_3 a_a_4 a_a_5 a_a_6 a_a_7 a_alt
    clear xb_a_0 xb_a_1 xb_a_2 xb_a_3 xb_a_4 xb_a_5 xb_a_6 xb_a_7 xb_alt
    go_ret
    exact ⟨rfl, b18⟩
  · have b0 : Below w.heap.size w w := Below.refl _ _
    have i_a := h_a
    go_enter Try.func6, Try.ntmps6
    go_wp2_with fail
    obtain ⟨w1, hw1⟩ : ∃ W, W = w.alloc (.cells #[.int .i64 a.a.k, .int .i64 a.a.n, .slice a.a.sA a.a.s.length a.a.sC, .int .i64 a.a.d.k, .int .i64 a.a.d.n, .string a.a.d.t, .slice a.a.d.A a.a.d.l.length a.a.d.c, .slice a.A a.l.length a.c] 28) := ⟨_, rfl⟩
    rw [← hw1]
    have hb1 : Below w.heap.size w w1 := by rw [hw1]; exact (Below.refl _ _).alloc (Nat.le_refl _) _
    have z1 : w.heap.size + 1 ≤ w1.heap.size := by rw [hw1]; simp
    have y1 : w1.heap.size ≤ w.heap.size + 1 := by rw [hw1]; simp
    have a_a : Ko.Box w1 w.heap.size a := by rw [hw1]; exact Ko.Box.new _ _ _
    clear hw1
    have b1 := b0.trans (hb1.mono (by omega))
    have i_a := h_a.below b1
    clear hb1
    refine (Ko_sz_any (a.size + 1) a w.heap.size _ 1048576 (by omega) (by omega) (by omega) i_a (by omega)).mono ?_
    rintro e w2 ⟨rfl, hb2⟩
    have z2 := hb2.size
    have a_a := a_a.below hb2 (by omega)
    have b2 := b1.trans (hb2.mono (by omega))
    have i_a := h_a.below b2
    clear hb2
    rw [szR_no (by omega)]
    have a_aq := a_a
    obtain ⟨a_a_0, a_a_1, a_a_2, a_a_3, a_a_4, a_a_5, a_a_6, a_a_7⟩ := a_aq
    have a_alt : w.heap.size < w2.heap.size := (by omega)
    go_wp2_with fail
    clear a_a_0 a_a_1 a_a_2 a_a_3 a_a_4 a_a_5 a_a_6 a_a_7 a_alt
    go_ret
    exact ⟨rfl, b2⟩
end Go.Proofs.Ytbeikpbnidbjfaa
