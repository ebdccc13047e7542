/-
  The law on GlobalsOf, walked (written by gen/globl.py).
-/
import Derived.Test.YtndckeodpoommaaGlA
import Derived.Deep.RegionHeld3
namespace Go.Proofs.Ytndckeodpoommaa
open Go.RowKit

set_option maxRecDepth 100000 in
set_option maxHeartbeats 2000000 in
theorem law_gl (A_a : Option Addr) (c_a : Nat) (a : List Un) (w : World) (h_a : Un.E.LIn w w.heap.size A_a c_a a) : Calls Try.prog 5 #[.slice A_a a.length c_a] w fun e w' => e = .returned (.bool true) ∧ Below w.heap.size w w' := by
  by_cases hz_a : (Row.bulk Un.bulk a : Int) ≤ 1048576
  · have hs_a : Row.bulk Un.bulk a ≤ 1500000 := by omega
    have hT : (Un.cat a).length ≤ 2000000 := by have := Un.cat_bulk a; omega
    have b0 : Below w.heap.size w w := Below.refl _ _
    have i_a := h_a
    go_enter Try.func5, Try.ntmps5
    go_wp2_with fail
    refine (Un_szL_any A_a c_a a w.heap.size _ 1048576 (by omega) (by omega) i_a (by omega)).mono ?_
    rintro e w1 ⟨rfl, hb1⟩
    have z1 := hb1.size
    have b1 := b0.trans (hb1.mono (by omega))
    have i_a := h_a.below b1
    clear hb1
    rw [szR_yes (by omega)]
    have n1_a : ¬ (1048576 - (Row.bulk Un.bulk a : Int) < 0) := by omega
    go_wp2_with fail
    refine (Un_toL_any A_a c_a a w.heap.size _ hs_a i_a (by omega)).mono ?_
    rintro e w2 ⟨d1_aA, d1_ac, d1_a, rfl, hed1_a, od1_a, hb2⟩
    have z2 := hb2.size
    have b2 := b1.trans (hb2.mono (by omega))
    have i_a := h_a.below b2
    clear hb2
    have Qd1_a := Lib.hid hed1_a
    have sd1_a : Row.bulk Un.bulk d1_a ≤ 1500000 := (by rw [Row.bulk_of_er (fun _ _ => Un.bulk_of_er) d1_a a Qd1_a.out]; exact hs_a)
    clear hed1_a
    go_wp2_with fail
    have hc := specGl_c d1_aA d1_ac d1_a w2.heap.size _ Qd1_a.out hs_a (od1_a.inn.more (by omega)) (by omega)
    refine hc.mono ?_
    clear hc
    rintro e w3 ⟨vvA, vvc, rfl, ovv, hb3⟩
    have z3 := hb3.size
    have od1_a := od1_a.below (hb3.mono (by omega))
    have b3 := b2.trans (hb3.mono (by omega))
    have i_a := h_a.below b3
    clear hb3
    clear od1_a
    go_wp2_with fail
    refine (Un_toL_any A_a c_a a w.heap.size _ hs_a i_a (by omega)).mono ?_
    rintro e w4 ⟨x_aA, x_ac, x_a, rfl, hex_a, ox_a, hb4⟩
    have z4 := hb4.size
    have ovv := ovv.below (hb4.mono (by omega))
    have b4 := b3.trans (hb4.mono (by omega))
    have i_a := h_a.below b4
    clear hb4
    have Qx_a := Lib.hid hex_a
    have sx_a : Row.bulk Un.bulk x_a ≤ 1500000 := (by rw [Row.bulk_of_er (fun _ _ => Un.bulk_of_er) x_a a Qx_a.out]; exact hs_a)
    clear hex_a
    go_wp2_with fail
    have hc := implGl_c x_aA x_ac x_a w4.heap.size _ Qx_a.out hs_a (ox_a.inn.more (by omega)) (by omega)
    refine hc.mono ?_
    clear hc
    rintro e w5 ⟨gvA, gvc, rfl, ogv, hb5⟩
    have z5 := hb5.size
    have ovv := ovv.below (hb5.mono (by omega))
    have ox_a := ox_a.below (hb5.mono (by omega))
    have b5 := b4.trans (hb5.mono (by omega))
    have i_a := h_a.below b5
    clear hb5
    go_wp2_with fail
    refine (eqI_same gvA gvc (Un.cat a) vvA vvc w5.heap.size _ (ogv.inn.more (by omega)) (ovv.inn.more (by omega)) (by omega)).mono ?_
    rintro e w6 ⟨rfl, hb6⟩
    have z6 := hb6.size
    have ovv := ovv.below (hb6.mono (by omega))
    have ox_a := ox_a.below (hb6.mono (by omega))
    have ogv := ogv.below (hb6.mono (by omega))
    have b6 := b5.trans (hb6.mono (by omega))
    have i_a := h_a.below b6
    clear hb6
    go_wp2_with fail
    refine (Un_toL_any A_a c_a a w.heap.size _ hs_a i_a (by omega)).mono ?_
    rintro e w7 ⟨y_aA, y_ac, y_a, rfl, hey_a, oy_a, hb7⟩
    have z7 := hb7.size
    have ovv := ovv.below (hb7.mono (by omega))
    have ox_a := ox_a.below (hb7.mono (by omega))
    have ogv := ogv.below (hb7.mono (by omega))
    have b7 := b6.trans (hb7.mono (by omega))
    have i_a := h_a.below b7
    clear hb7
    have Qy_a := Lib.hid hey_a
    clear hey_a
    go_wp2_with fail
    refine (Un_eqL_any x_aA x_ac x_a y_aA y_ac y_a w7.heap.size _ (Qx_a.out.trans Qy_a.out.symm) (ox_a.inn.more (by omega)) (oy_a.inn.more (by omega)) (by omega)).mono ?_
    rintro e w8 ⟨rfl, hb8⟩
    have z8 := hb8.size
    have ovv := ovv.below (hb8.mono (by omega))
    have ox_a := ox_a.below (hb8.mono (by omega))
    have ogv := ogv.below (hb8.mono (by omega))
    have oy_a := oy_a.below (hb8.mono (by omega))
    have b8 := b7.trans (hb8.mono (by omega))
    have i_a := h_a.below b8
    clear hb8
    clear oy_a
    go_wp2_with fail
    refine (Un_markL_any x_aA x_ac x_a w3.heap.size w4.heap.size _ 1 (by omega) (by omega) (by omega) ox_a (by omega)).mono ?_
    rintro e w9 ⟨rfl, x_am, hc9⟩
    have z9 := hc9.size
    have hl9 : ∀ k ∈ Un.E.lblks x_aA x_a, w3.heap.size ≤ k ∧ k < w4.heap.size := fun k hk => ⟨ox_a.lo_ _ hk, ox_a.inn.blk_lt _ hk⟩
    have ovv := ovv.keep (w' := w9) (fun k hk => hc9.block k (by have := ovv.inn.blk_lt _ hk; omega) (fun hm => by have := hl9 _ hm; have := ovv.inn.blk_lt _ hk; have := ovv.lo_ _ hk; omega))
    have ogv := ogv.keep (w' := w9) (fun k hk => hc9.block k (by have := ogv.inn.blk_lt _ hk; omega) (fun hm => by have := hl9 _ hm; have := ogv.inn.blk_lt _ hk; have := ogv.lo_ _ hk; omega))
    have b9 : Below w.heap.size w w9 := b8.trans (hc9.below (fun k hk => by have := hl9 _ hk; omega) (by omega))
    have i_a := h_a.below b9
    have ox_a := x_am
    clear hc9 hl9 x_am
    have n2_a : ¬ (1 + (Un.uwL x_a : Int) < 0) := by omega
    clear ox_a
    go_wp2_with fail
    refine (eqI_same gvA gvc (Un.cat a) vvA vvc w9.heap.size _ (ogv.inn.more (by omega)) (ovv.inn.more (by omega)) (by omega)).mono ?_
    rintro e w10 ⟨rfl, hb10⟩
    have z10 := hb10.size
    have ovv := ovv.below (hb10.mono (by omega))
    have ogv := ogv.below (hb10.mono (by omega))
    have b10 := b9.trans (hb10.mono (by omega))
    have i_a := h_a.below b10
    clear hb10
    go_wp2_with fail
    refine (markI_any gvA gvc (Un.cat a) w4.heap.size w5.heap.size _ 1 hT (by omega) (by omega) ogv).mono ?_
    rintro e w11 ⟨rfl, gvm, hc11⟩
    have z11 := hc11.size
    have hl11 : ∀ k ∈ iblk gvA (Un.cat a), w4.heap.size ≤ k ∧ k < w5.heap.size := fun k hk => ⟨ogv.lo_ _ hk, ogv.inn.blk_lt _ hk⟩
    have ovv := ovv.keep (w' := w11) (fun k hk => hc11.block k (by have := ovv.inn.blk_lt _ hk; omega) (fun hm => by have := hl11 _ hm; have := ovv.inn.blk_lt _ hk; have := ovv.lo_ _ hk; omega))
    have b11 : Below w.heap.size w w11 := b10.trans (hc11.below (fun k hk => by have := hl11 _ hk; omega) (by omega))
    have i_a := h_a.below b11
    have ogv := gvm
    clear hc11 hl11 gvm
    go_wp2_with fail
    refine (heldI_b gvA gvc (Un.cat a) w5.heap.size _ 1 hT (by omega) (by omega) ogv.inn).mono ?_
    rintro e w12 ⟨rfl, hb12⟩
    have z12 := hb12.size
    have ovv := ovv.below (hb12.mono (by omega))
    have ogv := ogv.below (hb12.mono (by omega))
    have b12 := b11.trans (hb12.mono (by omega))
    have i_a := h_a.below b12
    clear hb12
    have n3 : ¬ (1 + ((Un.cat a).length : Int) < 0) := by omega
    go_wp2_with fail
    refine (Un_toL_any A_a c_a a w.heap.size _ hs_a i_a (by omega)).mono ?_
    rintro e w13 ⟨d4_aA, d4_ac, d4_a, rfl, hed4_a, od4_a, hb13⟩
    have z13 := hb13.size
    have ovv := ovv.below (hb13.mono (by omega))
    have ogv := ogv.below (hb13.mono (by omega))
    have b13 := b12.trans (hb13.mono (by omega))
    have i_a := h_a.below b13
    clear hb13
    have Qd4_a := Lib.hid hed4_a
    have sd4_a : Row.bulk Un.bulk d4_a ≤ 1500000 := (by rw [Row.bulk_of_er (fun _ _ => Un.bulk_of_er) d4_a a Qd4_a.out]; exact hs_a)
    clear hed4_a
    go_wp2_with fail
    have hc := implGl_c d4_aA d4_ac d4_a w13.heap.size _ Qd4_a.out hs_a (od4_a.inn.more (by omega)) (by omega)
    refine hc.mono ?_
    clear hc
    rintro e w14 ⟨hvA, hvc, rfl, ohv, hb14⟩
    have z14 := hb14.size
    have ovv := ovv.below (hb14.mono (by omega))
    have ogv := ogv.below (hb14.mono (by omega))
    have od4_a := od4_a.below (hb14.mono (by omega))
    have b14 := b13.trans (hb14.mono (by omega))
    have i_a := h_a.below b14
    clear hb14
    clear od4_a
    go_wp2_with fail
    refine (eqI_same hvA hvc (Un.cat a) vvA vvc w14.heap.size _ (ohv.inn.more (by omega)) (ovv.inn.more (by omega)) (by omega)).mono ?_
    rintro e w15 ⟨rfl, hb15⟩
    have z15 := hb15.size
    have ovv := ovv.below (hb15.mono (by omega))
    have ogv := ogv.below (hb15.mono (by omega))
    have ohv := ohv.below (hb15.mono (by omega))
    have b15 := b14.trans (hb15.mono (by omega))
    have i_a := h_a.below b15
    clear hb15
    go_wp2_with fail
    refine (heldI_b gvA gvc (Un.cat a) w5.heap.size _ 1 hT (by omega) (by omega) ogv.inn).mono ?_
    rintro e w16 ⟨rfl, hb16⟩
    have z16 := hb16.size
    have ovv := ovv.below (hb16.mono (by omega))
    have ogv := ogv.below (hb16.mono (by omega))
    have ohv := ohv.below (hb16.mono (by omega))
    have b16 := b15.trans (hb16.mono (by omega))
    have i_a := h_a.below b16
    clear hb16
    go_wp2_with fail
    go_ret
    exact ⟨rfl, b16⟩
  · have b0 : Below w.heap.size w w := Below.refl _ _
    have i_a := h_a
    go_enter Try.func5, Try.ntmps5
    go_wp2_with fail
    refine (Un_szL_any A_a c_a a w.heap.size _ 1048576 (by omega) (by omega) i_a (by omega)).mono ?_
    rintro e w1 ⟨rfl, hb1⟩
    have z1 := hb1.size
    have b1 := b0.trans (hb1.mono (by omega))
    have i_a := h_a.below b1
    clear hb1
    rw [szR_no (by omega)]
    go_wp2_with fail
    go_ret
    exact ⟨rfl, b1⟩
end Go.Proofs.Ytndckeodpoommaa
