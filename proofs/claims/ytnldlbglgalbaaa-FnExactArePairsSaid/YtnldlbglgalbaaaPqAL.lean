/-
  The law on ArePairs, walked (written by gen/arep.py).
-/
import Derived.Test.YtnldlbglgalbaaaPqA
import Derived.Deep.RegionHeld3
namespace Go.Proofs.Ytnldlbglgalbaaa
open Go.RowKit
theorem specAp_c (A : Option Addr) (c : Nat) (l : List Pq) {l0 : List Pq} {X : Bool} (B : Nat) (w : World) (he : l.map Pq.er = l0.map Pq.er) (hX : X = Pq.okL l0) (hin : Pq.E.LIn w B A c l) (hB : B ≤ w.heap.size) :
    Calls Try.prog 16 #[.slice A l.length c] w fun e w' => e = .returned (.bool X) ∧ Below w.heap.size w w' := by
  rw [hX, ← Pq.map_er he]
  exact specAp_any A c l B w hin hB
theorem implAp_c (A : Option Addr) (c : Nat) (l : List Pq) {l0 : List Pq} {X : Bool} (B : Nat) (w : World) (he : l.map Pq.er = l0.map Pq.er) (hX : X = Pq.okL l0) (hin : Pq.E.LIn w B A c l) (hB : B ≤ w.heap.size) :
    Calls Try.prog 17 #[.slice A l.length c] w fun e w' => e = .returned (.bool X) ∧ Below w.heap.size w w' := by
  rw [hX, ← Pq.map_er he]
  exact implAp_any A c l B w hin hB

set_option maxRecDepth 100000 in
set_option maxHeartbeats 4000000 in
theorem law_ap (A_a : Option Addr) (c_a : Nat) (a : List Pq) (w : World) (h_a : Pq.E.LIn w w.heap.size A_a c_a a) : Calls Try.prog 4 #[.slice A_a a.length c_a] w fun e w' => e = .returned (.bool true) ∧ Below w.heap.size w w' := by
  by_cases hz_a : (Row.bulk Pq.bulk a : Int) ≤ 1048576
  · have hs_a : Row.bulk Pq.bulk a ≤ 1500000 := by omega
    obtain ⟨X, hX⟩ : ∃ X, X = Pq.okL a := ⟨_, rfl⟩
    have HX := Lib.hid hX
    clear hX
    have nq : (X != X) = false := by simp
    have b0 : Below w.heap.size w w := Below.refl _ _
    have i_a := h_a
    go_enter Try.func4, Try.ntmps4
    go_wp2_with fail
    refine (Pq_szL_any A_a c_a a w.heap.size _ 1048576 (by omega) (by omega) i_a (by omega)).mono ?_
    rintro e w1 ⟨rfl, hb1⟩
    have z1 := hb1.size
    have b1 := b0.trans (hb1.mono (by omega))
    have i_a := h_a.below b1
    clear hb1
    rw [szR_yes (by omega)]
    have n1_a : ¬ (1048576 - (Row.bulk Pq.bulk a : Int) < 0) := by omega
    go_wp2_with fail
    refine (Pq_toL_any A_a c_a a w.heap.size _ hs_a i_a (by omega)).mono ?_
    rintro e w2 ⟨d1_aA, d1_ac, d1_a, rfl, hed1_a, od1_a, hb2⟩
    have z2 := hb2.size
    have b2 := b1.trans (hb2.mono (by omega))
    have i_a := h_a.below b2
    clear hb2
    have Qd1_a := Lib.hid hed1_a
    have sd1_a : Row.bulk Pq.bulk d1_a ≤ 1500000 := (by rw [Row.bulk_of_er (fun _ _ => Pq.bulk_of_er) d1_a a Qd1_a.out]; exact hs_a)
    clear hed1_a
    go_wp2_with fail
    refine (specAp_c d1_aA d1_ac d1_a w2.heap.size _ Qd1_a.out HX.out (od1_a.inn.more (by omega)) (by omega)).mono ?_
    rintro e w3 ⟨rfl, hb3⟩
    have z3 := hb3.size
    have od1_a := od1_a.below (hb3.mono (by omega))
    have b3 := b2.trans (hb3.mono (by omega))
    have i_a := h_a.below b3
    clear hb3
    clear od1_a
    go_wp2_with fail
    refine (Pq_toL_any A_a c_a a w.heap.size _ hs_a i_a (by omega)).mono ?_
    rintro e w4 ⟨x_aA, x_ac, x_a, rfl, hex_a, ox_a, hb4⟩
    have z4 := hb4.size
    have b4 := b3.trans (hb4.mono (by omega))
    have i_a := h_a.below b4
    clear hb4
    have Qx_a := Lib.hid hex_a
    have sx_a : Row.bulk Pq.bulk x_a ≤ 1500000 := (by rw [Row.bulk_of_er (fun _ _ => Pq.bulk_of_er) x_a a Qx_a.out]; exact hs_a)
    clear hex_a
    go_wp2_with fail
    refine (implAp_c x_aA x_ac x_a w4.heap.size _ Qx_a.out HX.out (ox_a.inn.more (by omega)) (by omega)).mono ?_
    rintro e w5 ⟨rfl, hb5⟩
    have z5 := hb5.size
    have ox_a := ox_a.below (hb5.mono (by omega))
    have b5 := b4.trans (hb5.mono (by omega))
    have i_a := h_a.below b5
    clear hb5
    go_wp2_with fail
    refine (Pq_toL_any A_a c_a a w.heap.size _ hs_a i_a (by omega)).mono ?_
    rintro e w6 ⟨y_aA, y_ac, y_a, rfl, hey_a, oy_a, hb6⟩
    have z6 := hb6.size
    have ox_a := ox_a.below (hb6.mono (by omega))
    have b6 := b5.trans (hb6.mono (by omega))
    have i_a := h_a.below b6
    clear hb6
    have Qy_a := Lib.hid hey_a
    clear hey_a
    go_wp2_with fail
    refine (Pq_eqL_any x_aA x_ac x_a y_aA y_ac y_a w6.heap.size _ (Qx_a.out.trans Qy_a.out.symm) (ox_a.inn.more (by omega)) (oy_a.inn.more (by omega)) (by omega)).mono ?_
    rintro e w7 ⟨rfl, hb7⟩
    have z7 := hb7.size
    have ox_a := ox_a.below (hb7.mono (by omega))
    have oy_a := oy_a.below (hb7.mono (by omega))
    have b7 := b6.trans (hb7.mono (by omega))
    have i_a := h_a.below b7
    clear hb7
    clear oy_a
    go_wp2_with fail
    go_ret
    exact ⟨rfl, b7⟩
  · have b0 : Below w.heap.size w w := Below.refl _ _
    have i_a := h_a
    go_enter Try.func4, Try.ntmps4
    go_wp2_with fail
    refine (Pq_szL_any A_a c_a a w.heap.size _ 1048576 (by omega) (by omega) i_a (by omega)).mono ?_
    rintro e w1 ⟨rfl, hb1⟩
    have z1 := hb1.size
    have b1 := b0.trans (hb1.mono (by omega))
    have i_a := h_a.below b1
    clear hb1
    rw [szR_no (by omega)]
    go_wp2_with fail
    go_ret
    exact ⟨rfl, b1⟩
end Go.Proofs.Ytnldlbglgalbaaa
