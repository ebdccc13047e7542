/-
  The law on EqualCaptures, walked.
-/
import Derived.Test.YtikjipkhebedfaaKaE
import Derived.Test.YtikjipkhebedfaaKaS
import Derived.Deep.RegionHeld3
namespace Go.Proofs.Ytikjipkhebedfaa
open Go.RowKit

set_option maxRecDepth 100000 in
set_option maxHeartbeats 2000000 in
theorem law_eqka (A_a : Option Addr) (c_a : Nat) (a : List (Tr Ka)) (A_b : Option Addr) (c_b : Nat) (b : List (Tr Ka)) (w : World) (h_a : Ka.E.LIn w w.heap.size A_a c_a a) (h_b : Ka.E.LIn w w.heap.size A_b c_b b) : Calls Try.prog 11 #[.slice A_a a.length c_a, .slice A_b b.length c_b] w fun e w' => e = .returned (.bool true) ∧ Below w.heap.size w w' := by
  by_cases hz_a : (Tr.bulkL Ka.bulk a : Int) ≤ 1048576
  · have hs_a : Tr.bulkL Ka.bulk a ≤ 1500000 := by omega
    by_cases hz_b : (Tr.bulkL Ka.bulk b : Int) ≤ 1048576 - (Tr.bulkL Ka.bulk a : Int)
    · have hs_b : Tr.bulkL Ka.bulk b ≤ 1500000 := by omega
      have nq : (Tr.eqL Ka.eqB a b != Tr.eqL Ka.eqB a b) = false := by simp
      have b0 : Below w.heap.size w w := Below.refl _ _
      have i_a := h_a
      have i_b := h_b
      go_enter Try.func11, Try.ntmps11
      go_wp2_with fail
      refine (Ka_szL_any A_a c_a a w.heap.size _ 1048576 (by omega) (by omega) i_a (by omega)).mono ?_
      rintro e w1 ⟨rfl, hb1⟩
      have z1 := hb1.size
      have b1 := b0.trans (hb1.mono (by omega))
      have i_a := h_a.below b1
      have i_b := h_b.below b1
      clear hb1
      rw [szR_yes (by omega)]
      have n1_a : ¬ (1048576 - (Tr.bulkL Ka.bulk a : Int) < 0) := by omega
      go_wp2_with fail
      refine (Ka_szL_any A_b c_b b w.heap.size _ (1048576 - (Tr.bulkL Ka.bulk a : Int)) (by omega) (by omega) i_b (by omega)).mono ?_
      rintro e w2 ⟨rfl, hb2⟩
      have z2 := hb2.size
      have b2 := b1.trans (hb2.mono (by omega))
      have i_a := h_a.below b2
      have i_b := h_b.below b2
      clear hb2
      rw [szR_yes (by omega)]
      have n1_b : ¬ (1048576 - (Tr.bulkL Ka.bulk a : Int) - (Tr.bulkL Ka.bulk b : Int) < 0) := by omega
      go_wp2_with fail
      refine (Ka_toL_any A_a c_a a w.heap.size _ hs_a i_a (by omega)).mono ?_
      rintro e w3 ⟨d1_aA, d1_ac, d1_a, rfl, hed1_a, od1_a, hb3⟩
      have z3 := hb3.size
      have b3 := b2.trans (hb3.mono (by omega))
      have i_a := h_a.below b3
      have i_b := h_b.below b3
      clear hb3
      have Qd1_a := Lib.hid hed1_a
      have sd1_a : Tr.bulkL Ka.bulk d1_a ≤ 1500000 := (by rw [Tr.bulkL_of_er (fun _ _ => Ka.bulk_of_er) d1_a a Qd1_a.out]; exact hs_a)
      clear hed1_a
      go_wp2_with fail
      refine (Ka_toL_any A_b c_b b w.heap.size _ hs_b i_b (by omega)).mono ?_
      rintro e w4 ⟨d1_bA, d1_bc, d1_b, rfl, hed1_b, od1_b, hb4⟩
      have z4 := hb4.size
      have od1_a := od1_a.below (hb4.mono (by omega))
      have b4 := b3.trans (hb4.mono (by omega))
      have i_a := h_a.below b4
      have i_b := h_b.below b4
      clear hb4
      have Qd1_b := Lib.hid hed1_b
      have sd1_b : Tr.bulkL Ka.bulk d1_b ≤ 1500000 := (by rw [Tr.bulkL_of_er (fun _ _ => Ka.bulk_of_er) d1_b b Qd1_b.out]; exact hs_b)
      clear hed1_b
      go_wp2_with fail
      refine (specCaps_any _ d1_aA d1_ac d1_a d1_bA d1_bc d1_b w4.heap.size _ (Nat.le_refl _) (od1_a.inn.more (by omega)) (od1_b.inn.more (by omega)) (by omega)).mono ?_
      rintro e w5 ⟨rfl, hb5⟩
      have z5 := hb5.size
      have od1_a := od1_a.below (hb5.mono (by omega))
      have od1_b := od1_b.below (hb5.mono (by omega))
      have b5 := b4.trans (hb5.mono (by omega))
      have i_a := h_a.below b5
      have i_b := h_b.below b5
      clear hb5
      rw [Tr.eqL_congr Ka.eqB_er2 Qd1_a.out Qd1_b.out]
      clear od1_a
      clear od1_b
      go_wp2_with fail
      refine (Ka_toL_any A_a c_a a w.heap.size _ hs_a i_a (by omega)).mono ?_
      rintro e w6 ⟨x_aA, x_ac, x_a, rfl, hex_a, ox_a, hb6⟩
      have z6 := hb6.size
      have b6 := b5.trans (hb6.mono (by omega))
      have i_a := h_a.below b6
      have i_b := h_b.below b6
      clear hb6
      have Qx_a := Lib.hid hex_a
      have sx_a : Tr.bulkL Ka.bulk x_a ≤ 1500000 := (by rw [Tr.bulkL_of_er (fun _ _ => Ka.bulk_of_er) x_a a Qx_a.out]; exact hs_a)
      clear hex_a
      go_wp2_with fail
      refine (Ka_toL_any A_b c_b b w.heap.size _ hs_b i_b (by omega)).mono ?_
      rintro e w7 ⟨x_bA, x_bc, x_b, rfl, hex_b, ox_b, hb7⟩
      have z7 := hb7.size
      have ox_a := ox_a.below (hb7.mono (by omega))
      have b7 := b6.trans (hb7.mono (by omega))
      have i_a := h_a.below b7
      have i_b := h_b.below b7
      clear hb7
      have Qx_b := Lib.hid hex_b
      have sx_b : Tr.bulkL Ka.bulk x_b ≤ 1500000 := (by rw [Tr.bulkL_of_er (fun _ _ => Ka.bulk_of_er) x_b b Qx_b.out]; exact hs_b)
      clear hex_b
      go_wp2_with fail
      refine (implCaps_any _ (implCap_any _) x_aA x_ac x_a x_bA x_bc x_b w7.heap.size _ (Nat.le_refl _) (ox_a.inn.more (by omega)) (ox_b.inn.more (by omega)) (by omega)).mono ?_
      rintro e w8 ⟨rfl, hb8⟩
      have z8 := hb8.size
      have ox_a := ox_a.below (hb8.mono (by omega))
      have ox_b := ox_b.below (hb8.mono (by omega))
      have b8 := b7.trans (hb8.mono (by omega))
      have i_a := h_a.below b8
      have i_b := h_b.below b8
      clear hb8
      rw [Tr.eqL_congr Ka.eqB_er2 Qx_a.out Qx_b.out]
      go_wp2_with fail
      refine (Ka_toL_any A_a c_a a w.heap.size _ hs_a i_a (by omega)).mono ?_
      rintro e w9 ⟨y_aA, y_ac, y_a, rfl, hey_a, oy_a, hb9⟩
      have z9 := hb9.size
      have ox_a := ox_a.below (hb9.mono (by omega))
      have ox_b := ox_b.below (hb9.mono (by omega))
      have b9 := b8.trans (hb9.mono (by omega))
      have i_a := h_a.below b9
      have i_b := h_b.below b9
      clear hb9
      have Qy_a := Lib.hid hey_a
      clear hey_a
      go_wp2_with fail
      refine (Ka_eqL_any x_aA x_ac x_a y_aA y_ac y_a w9.heap.size _ (Qx_a.out.trans Qy_a.out.symm) (ox_a.inn.more (by omega)) (oy_a.inn.more (by omega)) (by omega)).mono ?_
      rintro e w10 ⟨rfl, hb10⟩
      have z10 := hb10.size
      have ox_a := ox_a.below (hb10.mono (by omega))
      have ox_b := ox_b.below (hb10.mono (by omega))
      have oy_a := oy_a.below (hb10.mono (by omega))
      have b10 := b9.trans (hb10.mono (by omega))
      have i_a := h_a.below b10
      have i_b := h_b.below b10
      clear hb10
      clear oy_a
      go_wp2_with fail
      refine (Ka_toL_any A_b c_b b w.heap.size _ hs_b i_b (by omega)).mono ?_
      rintro e w11 ⟨y_bA, y_bc, y_b, rfl, hey_b, oy_b, hb11⟩
      have z11 := hb11.size
      have ox_a := ox_a.below (hb11.mono (by omega))
      have ox_b := ox_b.below (hb11.mono (by omega))
      have b11 := b10.trans (hb11.mono (by omega))
      have i_a := h_a.below b11
      have i_b := h_b.below b11
      clear hb11
      have Qy_b := Lib.hid hey_b
      clear hey_b
      go_wp2_with fail
      refine (Ka_eqL_any x_bA x_bc x_b y_bA y_bc y_b w11.heap.size _ (Qx_b.out.trans Qy_b.out.symm) (ox_b.inn.more (by omega)) (oy_b.inn.more (by omega)) (by omega)).mono ?_
      rintro e w12 ⟨rfl, hb12⟩
      have z12 := hb12.size
      have ox_a := ox_a.below (hb12.mono (by omega))
      have ox_b := ox_b.below (hb12.mono (by omega))
      have oy_b := oy_b.below (hb12.mono (by omega))
      have b12 := b11.trans (hb12.mono (by omega))
      have i_a := h_a.below b12
      have i_b := h_b.below b12
      clear hb12
      clear oy_b
      go_wp2_with fail
      go_ret
      exact ⟨rfl, b12⟩
    · have b0 : Below w.heap.size w w := Below.refl _ _
      have i_a := h_a
      have i_b := h_b
      go_enter Try.func11, Try.ntmps11
      go_wp2_with fail
      refine (Ka_szL_any A_a c_a a w.heap.size _ 1048576 (by omega) (by omega) i_a (by omega)).mono ?_
      rintro e w1 ⟨rfl, hb1⟩
      have z1 := hb1.size
      have b1 := b0.trans (hb1.mono (by omega))
      have i_a := h_a.below b1
      have i_b := h_b.below b1
      clear hb1
      rw [szR_yes (by omega)]
      have n1_a : ¬ (1048576 - (Tr.bulkL Ka.bulk a : Int) < 0) := by omega
      go_wp2_with fail
      refine (Ka_szL_any A_b c_b b w.heap.size _ (1048576 - (Tr.bulkL Ka.bulk a : Int)) (by omega) (by omega) i_b (by omega)).mono ?_
      rintro e w2 ⟨rfl, hb2⟩
      have z2 := hb2.size
      have b2 := b1.trans (hb2.mono (by omega))
      have i_a := h_a.below b2
      have i_b := h_b.below b2
      clear hb2
      rw [szR_no (by omega)]
      go_wp2_with fail
      go_ret
      exact ⟨rfl, b2⟩
  · have b0 : Below w.heap.size w w := Below.refl _ _
    have i_a := h_a
    have i_b := h_b
    go_enter Try.func11, Try.ntmps11
    go_wp2_with fail
    refine (Ka_szL_any A_a c_a a w.heap.size _ 1048576 (by omega) (by omega) i_a (by omega)).mono ?_
    rintro e w1 ⟨rfl, hb1⟩
    have z1 := hb1.size
    have b1 := b0.trans (hb1.mono (by omega))
    have i_a := h_a.below b1
    have i_b := h_b.below b1
    clear hb1
    rw [szR_no (by omega)]
    go_wp2_with fail
    go_ret
    exact ⟨rfl, b1⟩
end Go.Proofs.Ytikjipkhebedfaa
