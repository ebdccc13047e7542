/-
  The law on IsValue, walked (written by gen/arep.py).
-/
import Derived.Test.YtnldlbglgalbaaaPqA
import Derived.Test.YtnldlbglgalbaaaVuQ
import Derived.Deep.RegionHeld3
namespace Go.Proofs.Ytnldlbglgalbaaa
open Go.RowKit
theorem specIv_c (v : Vu) (A : Option Addr) (c : Nat) (l : List Pq) {v0 : Vu} {l0 : List Pq} {X : Bool} (B : Nat) (w : World) (hv : v.er = v0.er) (he : l.map Pq.er = l0.map Pq.er) (hX : X = (Pq.okL l0 && v0.ok l0.length)) (hin1 : Vu.E.In w B v) (hin : Pq.E.LIn w B A c l) (hB : B ≤ w.heap.size) :
    Calls Try.prog 11 #[Vu.val v, .slice A l.length c] w fun e w' => e = .returned (.bool X) ∧ Below w.heap.size w w' := by
  rw [hX, ← Pq.map_er he, ← Vu.er_eq hv]
  exact specIv_any v A c l B w (Vu.E_in hin1).t hin hB
theorem implIv_c (v : Vu) (A : Option Addr) (c : Nat) (l : List Pq) {v0 : Vu} {l0 : List Pq} {X : Bool} (B : Nat) (w : World) (hv : v.er = v0.er) (he : l.map Pq.er = l0.map Pq.er) (hX : X = (Pq.okL l0 && v0.ok l0.length)) (hin1 : Vu.E.In w B v) (hin : Pq.E.LIn w B A c l) (hB : B ≤ w.heap.size) :
    Calls Try.prog 14 #[Vu.val v, .slice A l.length c] w fun e w' => e = .returned (.bool X) ∧ Below w.heap.size w w' := by
  rw [hX, ← Pq.map_er he, ← Vu.er_eq hv]
  exact implIv_any v A c l B w (Vu.E_in hin1).t hin hB

set_option maxRecDepth 100000 in
set_option maxHeartbeats 4000000 in
theorem law_iv (v : Vu) (A_a : Option Addr) (c_a : Nat) (a : List Pq) (w : World) (h_v : Vu.E.In w w.heap.size v) (h_a : Pq.E.LIn w w.heap.size A_a c_a a) : Calls Try.prog 3 #[Vu.val v, .slice A_a a.length c_a] w fun e w' => e = .returned (.bool true) ∧ Below w.heap.size w w' := by
  obtain ⟨X, hX⟩ : ∃ X, X = (Pq.okL a && v.ok a.length) := ⟨_, rfl⟩
  have HX := Lib.hid hX
  clear hX
  have nq : (X != X) = false := by simp
  unfold Vu.val
  by_cases hz_v : (v.bulk : Int) ≤ 1048576
  · have hs_v : v.bulk ≤ 1500000 := by omega
    by_cases hz_a : (Row.bulk Pq.bulk a : Int) ≤ 1048576 - (v.bulk : Int)
    · have hs_a : Row.bulk Pq.bulk a ≤ 1500000 := by omega
      have b0 : Below w.heap.size w w := Below.refl _ _
      have i_v := h_v
      have i_a := h_a
      go_enter Try.func3, Try.ntmps3
      go_wp2_with fail
      obtain ⟨w1, hw1⟩ : ∃ W, W = w.alloc (.cells #[.int .i64 v.k, .int .i64 v.n, .string v.t] 23) := ⟨_, rfl⟩
      rw [← hw1]
      have hb1 : Below w.heap.size w w1 := by rw [hw1]; exact (Below.refl _ _).alloc (Nat.le_refl _) _
      have z1 : w.heap.size + 1 ≤ w1.heap.size := by rw [hw1]; simp
      have y1 : w1.heap.size ≤ w.heap.size + 1 := by rw [hw1]; simp
      have a_v : Vu.Box w1 w.heap.size v := by rw [hw1]; exact Vu.Box.new _ _ _
      clear hw1
      have b1 := b0.trans (hb1.mono (by omega))
      have i_v := h_v.below b1
      have i_a := h_a.below b1
      clear hb1
      refine (Vu_sz_any v w.heap.size _ 1048576 (by omega) (by omega) i_v (by omega)).mono ?_
      rintro e w2 ⟨rfl, hb2⟩
      have z2 := hb2.size
      have a_v := a_v.below hb2 (by omega)
      have b2 := b1.trans (hb2.mono (by omega))
      have i_v := h_v.below b2
      have i_a := h_a.below b2
      clear hb2
      rw [szR_yes (by omega)]
      have n1_v : ¬ (1048576 - (v.bulk : Int) < 0) := by omega
      have a_vq := a_v
      obtain ⟨a_v_0, a_v_1, a_v_2⟩ := a_vq
      have a_vlt : w.heap.size < w2.heap.size := (by omega)
      go_wp2_with fail
      clear a_v_0 a_v_1 a_v_2 a_vlt
      refine (Pq_szL_any A_a c_a a w.heap.size _ (1048576 - (v.bulk : Int)) (by omega) (by omega) i_a (by omega)).mono ?_
      rintro e w3 ⟨rfl, hb3⟩
      have z3 := hb3.size
      have a_v := a_v.below hb3 (by omega)
      have b3 := b2.trans (hb3.mono (by omega))
      have i_v := h_v.below b3
      have i_a := h_a.below b3
      clear hb3
      rw [szR_yes (by omega)]
      have n1_a : ¬ (1048576 - (v.bulk : Int) - (Row.bulk Pq.bulk a : Int) < 0) := by omega
      have a_vq := a_v
      obtain ⟨a_v_0, a_v_1, a_v_2⟩ := a_vq
      have a_vlt : w.heap.size < w3.heap.size := (by omega)
      go_wp2_with fail
      clear a_v_0 a_v_1 a_v_2 a_vlt
      refine (Vu_to_any v w.heap.size _ hs_v i_v (by omega)).mono ?_
      rintro e w4 ⟨d1, rfl, hed1, od1, hb4⟩
      have z4 := hb4.size
      have a_v := a_v.below hb4 (by omega)
      have b4 := b3.trans (hb4.mono (by omega))
      have i_v := h_v.below b4
      have i_a := h_a.below b4
      clear hb4
      have Qd1 := Lib.hid hed1
      clear hed1
      simp only [Vu.val]
      have a_vq := a_v
      obtain ⟨a_v_0, a_v_1, a_v_2⟩ := a_vq
      have a_vlt : w.heap.size < w4.heap.size := (by omega)
      go_wp2_with fail
      clear a_v_0 a_v_1 a_v_2 a_vlt
      refine (Pq_toL_any A_a c_a a w.heap.size _ hs_a i_a (by omega)).mono ?_
      rintro e w5 ⟨d2A, d2c, d2, rfl, hed2, od2, hb5⟩
      have z5 := hb5.size
      have a_v := a_v.below hb5 (by omega)
      have od1 := od1.below (hb5.mono (by omega))
      have b5 := b4.trans (hb5.mono (by omega))
      have i_v := h_v.below b5
      have i_a := h_a.below b5
      clear hb5
      have Qd2 := Lib.hid hed2
      clear hed2
      have a_vq := a_v
      obtain ⟨a_v_0, a_v_1, a_v_2⟩ := a_vq
      have a_vlt : w.heap.size < w5.heap.size := (by omega)
      go_wp2_with fail
      clear a_v_0 a_v_1 a_v_2 a_vlt
      refine (specIv_c d1 d2A d2c d2 w5.heap.size _ Qd1.out Qd2.out HX.out (od1.inn.more (by omega)) (od2.inn.more (by omega)) (by omega)).mono ?_
      rintro e w6 ⟨rfl, hb6⟩
      have z6 := hb6.size
      have a_v := a_v.below hb6 (by omega)
      have od1 := od1.below (hb6.mono (by omega))
      have od2 := od2.below (hb6.mono (by omega))
      have b6 := b5.trans (hb6.mono (by omega))
      have i_v := h_v.below b6
      have i_a := h_a.below b6
      clear hb6
      clear od1
      clear od2
      have a_vq := a_v
      obtain ⟨a_v_0, a_v_1, a_v_2⟩ := a_vq
      have a_vlt : w.heap.size < w6.heap.size := (by omega)
      go_wp2_with fail
      clear a_v_0 a_v_1 a_v_2 a_vlt
      refine (Pq_toL_any A_a c_a a w.heap.size _ hs_a i_a (by omega)).mono ?_
      rintro e w7 ⟨x1A, x1c, x1, rfl, hex1, ox1, hb7⟩
      have z7 := hb7.size
      have a_v := a_v.below hb7 (by omega)
      have b7 := b6.trans (hb7.mono (by omega))
      have i_v := h_v.below b7
      have i_a := h_a.below b7
      clear hb7
      have Qx1 := Lib.hid hex1
      clear hex1
      have a_vq := a_v
      obtain ⟨a_v_0, a_v_1, a_v_2⟩ := a_vq
      have a_vlt : w.heap.size < w7.heap.size := (by omega)
      go_wp2_with fail
      clear a_v_0 a_v_1 a_v_2 a_vlt
      refine (Vu_to_any v w.heap.size _ hs_v i_v (by omega)).mono ?_
      rintro e w8 ⟨d3, rfl, hed3, od3, hb8⟩
      have z8 := hb8.size
      have a_v := a_v.below hb8 (by omega)
      have ox1 := ox1.below (hb8.mono (by omega))
      have b8 := b7.trans (hb8.mono (by omega))
      have i_v := h_v.below b8
      have i_a := h_a.below b8
      clear hb8
      have Qd3 := Lib.hid hed3
      clear hed3
      simp only [Vu.val]
      have a_vq := a_v
      obtain ⟨a_v_0, a_v_1, a_v_2⟩ := a_vq
      have a_vlt : w.heap.size < w8.heap.size := (by omega)
      go_wp2_with fail
      clear a_v_0 a_v_1 a_v_2 a_vlt
      refine (implIv_c d3 x1A x1c x1 w8.heap.size _ Qd3.out Qx1.out HX.out (od3.inn.more (by omega)) (ox1.inn.more (by omega)) (by omega)).mono ?_
      rintro e w9 ⟨rfl, hb9⟩
      have z9 := hb9.size
      have a_v := a_v.below hb9 (by omega)
      have ox1 := ox1.below (hb9.mono (by omega))
      have od3 := od3.below (hb9.mono (by omega))
      have b9 := b8.trans (hb9.mono (by omega))
      have i_v := h_v.below b9
      have i_a := h_a.below b9
      clear hb9
      clear od3
      have a_vq := a_v
      obtain ⟨a_v_0, a_v_1, a_v_2⟩ := a_vq
      have a_vlt : w.heap.size < w9.heap.size := (by omega)
      go_wp2_with fail
      clear a_v_0 a_v_1 a_v_2 a_vlt
      refine (Pq_toL_any A_a c_a a w.heap.size _ hs_a i_a (by omega)).mono ?_
      rintro e w10 ⟨y1A, y1c, y1, rfl, hey1, oy1, hb10⟩
      have z10 := hb10.size
      have a_v := a_v.below hb10 (by omega)
      have ox1 := ox1.below (hb10.mono (by omega))
      have b10 := b9.trans (hb10.mono (by omega))
      have i_v := h_v.below b10
      have i_a := h_a.below b10
      clear hb10
      have Qy1 := Lib.hid hey1
      clear hey1
      have a_vq := a_v
      obtain ⟨a_v_0, a_v_1, a_v_2⟩ := a_vq
      have a_vlt : w.heap.size < w10.heap.size := (by omega)
      go_wp2_with fail
      clear a_v_0 a_v_1 a_v_2 a_vlt
      refine (Pq_eqL_any x1A x1c x1 y1A y1c y1 w10.heap.size _ (Qx1.out.trans Qy1.out.symm) (ox1.inn.more (by omega)) (oy1.inn.more (by omega)) (by omega)).mono ?_
      rintro e w11 ⟨rfl, hb11⟩
      have z11 := hb11.size
      have a_v := a_v.below hb11 (by omega)
      have ox1 := ox1.below (hb11.mono (by omega))
      have oy1 := oy1.below (hb11.mono (by omega))
      have b11 := b10.trans (hb11.mono (by omega))
      have i_v := h_v.below b11
      have i_a := h_a.below b11
      clear hb11
      have a_vq := a_v
      obtain ⟨a_v_0, a_v_1, a_v_2⟩ := a_vq
      have a_vlt : w.heap.size < w11.heap.size := (by omega)
      go_wp2_with fail
      clear a_v_0 a_v_1 a_v_2 a_vlt
      go_ret
      exact ⟨rfl, b11⟩
    · have b0 : Below w.heap.size w w := Below.refl _ _
      have i_v := h_v
      have i_a := h_a
      go_enter Try.func3, Try.ntmps3
      go_wp2_with fail
      obtain ⟨w1, hw1⟩ : ∃ W, W = w.alloc (.cells #[.int .i64 v.k, .int .i64 v.n, .string v.t] 23) := ⟨_, rfl⟩
      rw [← hw1]
      have hb1 : Below w.heap.size w w1 := by rw [hw1]; exact (Below.refl _ _).alloc (Nat.le_refl _) _
      have z1 : w.heap.size + 1 ≤ w1.heap.size := by rw [hw1]; simp
      have y1 : w1.heap.size ≤ w.heap.size + 1 := by rw [hw1]; simp
      have a_v : Vu.Box w1 w.heap.size v := by rw [hw1]; exact Vu.Box.new _ _ _
      clear hw1
      have b1 := b0.trans (hb1.mono (by omega))
      have i_v := h_v.below b1
      have i_a := h_a.below b1
      clear hb1
      refine (Vu_sz_any v w.heap.size _ 1048576 (by omega) (by omega) i_v (by omega)).mono ?_
      rintro e w2 ⟨rfl, hb2⟩
      have z2 := hb2.size
      have a_v := a_v.below hb2 (by omega)
      have b2 := b1.trans (hb2.mono (by omega))
      have i_v := h_v.below b2
      have i_a := h_a.below b2
      clear hb2
      rw [szR_yes (by omega)]
      have n1_v : ¬ (1048576 - (v.bulk : Int) < 0) := by omega
      have a_vq := a_v
      obtain ⟨a_v_0, a_v_1, a_v_2⟩ := a_vq
      have a_vlt : w.heap.size < w2.heap.size := (by omega)
      go_wp2_with fail
      clear a_v_0 a_v_1 a_v_2 a_vlt
      refine (Pq_szL_any A_a c_a a w.heap.size _ (1048576 - (v.bulk : Int)) (by omega) (by omega) i_a (by omega)).mono ?_
      rintro e w3 ⟨rfl, hb3⟩
      have z3 := hb3.size
      have a_v := a_v.below hb3 (by omega)
      have b3 := b2.trans (hb3.mono (by omega))
      have i_v := h_v.below b3
      have i_a := h_a.below b3
      clear hb3
      rw [szR_no (by omega)]
      have a_vq := a_v
      obtain ⟨a_v_0, a_v_1, a_v_2⟩ := a_vq
      have a_vlt : w.heap.size < w3.heap.size := (by omega)
      go_wp2_with fail
      clear a_v_0 a_v_1 a_v_2 a_vlt
      go_ret
      exact ⟨rfl, b3⟩
  · have b0 : Below w.heap.size w w := Below.refl _ _
    have i_v := h_v
    have i_a := h_a
    go_enter Try.func3, Try.ntmps3
    go_wp2_with fail
    obtain ⟨w1, hw1⟩ : ∃ W, W = w.alloc (.cells #[.int .i64 v.k, .int .i64 v.n, .string v.t] 23) := ⟨_, rfl⟩
    rw [← hw1]
    have hb1 : Below w.heap.size w w1 := by rw [hw1]; exact (Below.refl _ _).alloc (Nat.le_refl _) _
    have z1 : w.heap.size + 1 ≤ w1.heap.size := by rw [hw1]; simp
    have y1 : w1.heap.size ≤ w.heap.size + 1 := by rw [hw1]; simp
    have a_v : Vu.Box w1 w.heap.size v := by rw [hw1]; exact Vu.Box.new _ _ _
    clear hw1
    have b1 := b0.trans (hb1.mono (by omega))
    have i_v := h_v.below b1
    have i_a := h_a.below b1
    clear hb1
    refine (Vu_sz_any v w.heap.size _ 1048576 (by omega) (by omega) i_v (by omega)).mono ?_
    rintro e w2 ⟨rfl, hb2⟩
    have z2 := hb2.size
    have a_v := a_v.below hb2 (by omega)
    have b2 := b1.trans (hb2.mono (by omega))
    have i_v := h_v.below b2
    have i_a := h_a.below b2
    clear hb2
    rw [szR_no (by omega)]
    have a_vq := a_v
    obtain ⟨a_v_0, a_v_1, a_v_2⟩ := a_vq
    have a_vlt : w.heap.size < w2.heap.size := (by omega)
    go_wp2_with fail
    clear a_v_0 a_v_1 a_v_2 a_vlt
    go_ret
    exact ⟨rfl, b2⟩
end Go.Proofs.Ytnldlbglgalbaaa
