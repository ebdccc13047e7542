/-
  Pair: the laws' own size (written by gen/rec.py).
-/
import Derived.Test.YtnldlbglgalbaabPqB
import Derived.Test.YtnldlbglgalbaabSTrees
import Derived.Test.YtnldlbglgalbaabVuZ
namespace Go.Proofs.Ytnldlbglgalbaab
open Go.RowKit

set_option maxRecDepth 100000 in
set_option maxHeartbeats 4000000 in
theorem Pq_sz_any (d : Pq) (B : Nat) (w : World) (left : Int) (h0 : 0 ≤ left) (h1 : left ≤ 1048576) (hin : Pq.E.In w B d) (hB : B ≤ w.heap.size) :
    Calls Try.prog 14 #[Pq.val d, .int .i64 left] w fun e w' => e = .returned (.int .i64 (szR (d.bulk) left)) ∧ Below w.heap.size w w' := by
  have h_d := Elem.In.more hin hB
  have hbu : ((d.bulk : Nat) : Int) = (d.h.bulk : Int) + (d.u.bulk : Int) := by unfold Pq.bulk; omega
  unfold Pq.val
  by_cases hz0 : (d.h.bulk : Int) ≤ left
  · skip
    by_cases hz1 : (d.u.bulk : Int) ≤ left - (d.h.bulk : Int)
    · skip
      have HR : Hid (szR (d.bulk) left = left - (d.h.bulk : Int) - (d.u.bulk : Int)) := by show _ = _; rw [szR_yes (by omega)]; omega
      clear hbu
      have b0 : Below w.heap.size w w := Below.refl _ _
      have i_d := h_d
      go_enter Try.func14, Try.ntmps14
      go_wp2_with fail
      obtain ⟨w1, hw1⟩ : ∃ W, W = w.alloc (.cells #[.int .i64 d.h.k, .int .i64 d.h.n, .string d.h.t, .int .i64 d.u.k, .int .i64 d.u.n, .string d.u.t] 42) := ⟨_, rfl⟩
      rw [← hw1]
      have hb1 : Below w.heap.size w w1 := by rw [hw1]; exact (Below.refl _ _).alloc (Nat.le_refl _) _
      have z1 : w.heap.size + 1 ≤ w1.heap.size := by rw [hw1]; simp
      have y1 : w1.heap.size ≤ w.heap.size + 1 := by rw [hw1]; simp
      have xb : Pq.Box w1 w.heap.size d := by rw [hw1]; exact Pq.Box.new _ _ _
      clear hw1
      have b1 := b0.trans (hb1.mono (by omega))
      have i_d := h_d.below b1
      clear hb1
      have xbq := xb
      obtain ⟨xb_0, xb_1, xb_2, xb_3, xb_4, xb_5⟩ := xbq
      have xblt : w.heap.size < w1.heap.size := (by omega)
      go_wp2_with fail
      clear xb_0 xb_1 xb_2 xb_3 xb_4 xb_5 xblt
      refine (Vu_sz_any d.h w.heap.size _ (left) (by omega) (by omega) (Pq.E_in i_d).h (by omega)).mono ?_
      rintro e w2 ⟨rfl, hb2⟩
      have z2 := hb2.size
      have xb := xb.below hb2 (by omega)
      have b2 := b1.trans (hb2.mono (by omega))
      have i_d := h_d.below b2
      clear hb2
      rw [szR_yes (by omega)]
      have n0 : ¬ (left - (d.h.bulk : Int) < 0) := by omega
      have xbq := xb
      obtain ⟨xb_0, xb_1, xb_2, xb_3, xb_4, xb_5⟩ := xbq
      have xblt : w.heap.size < w2.heap.size := (by omega)
      go_wp2_with fail
      clear xb_0 xb_1 xb_2 xb_3 xb_4 xb_5 xblt
      refine (Vu_sz_any d.u w.heap.size _ (left - (d.h.bulk : Int)) (by omega) (by omega) (Pq.E_in i_d).u (by omega)).mono ?_
      rintro e w3 ⟨rfl, hb3⟩
      have z3 := hb3.size
      have xb := xb.below hb3 (by omega)
      have b3 := b2.trans (hb3.mono (by omega))
      have i_d := h_d.below b3
      clear hb3
      rw [szR_yes (by omega)]
      have n1 : ¬ (left - (d.h.bulk : Int) - (d.u.bulk : Int) < 0) := by omega
      have xbq := xb
      obtain ⟨xb_0, xb_1, xb_2, xb_3, xb_4, xb_5⟩ := xbq
      have xblt : w.heap.size < w3.heap.size := (by omega)
      go_wp2_with fail
      clear xb_0 xb_1 xb_2 xb_3 xb_4 xb_5 xblt
      go_ret
      exact ⟨ret_int HR.out.symm, b3⟩
    · skip
      have HR : Hid (szR (d.bulk) left = -1) := szR_no (by omega)
      clear hbu
      have b0 : Below w.heap.size w w := Below.refl _ _
      have i_d := h_d
      go_enter Try.func14, Try.ntmps14
      go_wp2_with fail
      obtain ⟨w1, hw1⟩ : ∃ W, W = w.alloc (.cells #[.int .i64 d.h.k, .int .i64 d.h.n, .string d.h.t, .int .i64 d.u.k, .int .i64 d.u.n, .string d.u.t] 42) := ⟨_, rfl⟩
      rw [← hw1]
      have hb1 : Below w.heap.size w w1 := by rw [hw1]; exact (Below.refl _ _).alloc (Nat.le_refl _) _
      have z1 : w.heap.size + 1 ≤ w1.heap.size := by rw [hw1]; simp
      have y1 : w1.heap.size ≤ w.heap.size + 1 := by rw [hw1]; simp
      have xb : Pq.Box w1 w.heap.size d := by rw [hw1]; exact Pq.Box.new _ _ _
      clear hw1
      have b1 := b0.trans (hb1.mono (by omega))
      have i_d := h_d.below b1
      clear hb1
      have xbq := xb
      obtain ⟨xb_0, xb_1, xb_2, xb_3, xb_4, xb_5⟩ := xbq
      have xblt : w.heap.size < w1.heap.size := (by omega)
      go_wp2_with fail
      clear xb_0 xb_1 xb_2 xb_3 xb_4 xb_5 xblt
      refine (Vu_sz_any d.h w.heap.size _ (left) (by omega) (by omega) (Pq.E_in i_d).h (by omega)).mono ?_
      rintro e w2 ⟨rfl, hb2⟩
      have z2 := hb2.size
      have xb := xb.below hb2 (by omega)
      have b2 := b1.trans (hb2.mono (by omega))
      have i_d := h_d.below b2
      clear hb2
      rw [szR_yes (by omega)]
      have n0 : ¬ (left - (d.h.bulk : Int) < 0) := by omega
      have xbq := xb
      obtain ⟨xb_0, xb_1, xb_2, xb_3, xb_4, xb_5⟩ := xbq
      have xblt : w.heap.size < w2.heap.size := (by omega)
      go_wp2_with fail
      clear xb_0 xb_1 xb_2 xb_3 xb_4 xb_5 xblt
      refine (Vu_sz_any d.u w.heap.size _ (left - (d.h.bulk : Int)) (by omega) (by omega) (Pq.E_in i_d).u (by omega)).mono ?_
      rintro e w3 ⟨rfl, hb3⟩
      have z3 := hb3.size
      have xb := xb.below hb3 (by omega)
      have b3 := b2.trans (hb3.mono (by omega))
      have i_d := h_d.below b3
      clear hb3
      rw [szR_no (by omega)]
      have xbq := xb
      obtain ⟨xb_0, xb_1, xb_2, xb_3, xb_4, xb_5⟩ := xbq
      have xblt : w.heap.size < w3.heap.size := (by omega)
      go_wp2_with fail
      clear xb_0 xb_1 xb_2 xb_3 xb_4 xb_5 xblt
      go_ret
      exact ⟨ret_int HR.out.symm, b3⟩
  · skip
    have HR : Hid (szR (d.bulk) left = -1) := szR_no (by omega)
    clear hbu
    have b0 : Below w.heap.size w w := Below.refl _ _
    have i_d := h_d
    go_enter Try.func14, Try.ntmps14
    go_wp2_with fail
    obtain ⟨w1, hw1⟩ : ∃ W, W = w.alloc (.cells #[.int .i64 d.h.k, .int .i64 d.h.n, .string d.h.t, .int .i64 d.u.k, .int .i64 d.u.n, .string d.u.t] 42) := ⟨_, rfl⟩
    rw [← hw1]
    have hb1 : Below w.heap.size w w1 := by rw [hw1]; exact (Below.refl _ _).alloc (Nat.le_refl _) _
    have z1 : w.heap.size + 1 ≤ w1.heap.size := by rw [hw1]; simp
    have y1 : w1.heap.size ≤ w.heap.size + 1 := by rw [hw1]; simp
    have xb : Pq.Box w1 w.heap.size d := by rw [hw1]; exact Pq.Box.new _ _ _
    clear hw1
    have b1 := b0.trans (hb1.mono (by omega))
    have i_d := h_d.below b1
    clear hb1
    have xbq := xb
    obtain ⟨xb_0, xb_1, xb_2, xb_3, xb_4, xb_5⟩ := xbq
    have xblt : w.heap.size < w1.heap.size := (by omega)
    go_wp2_with fail
    clear xb_0 xb_1 xb_2 xb_3 xb_4 xb_5 xblt
    refine (Vu_sz_any d.h w.heap.size _ (left) (by omega) (by omega) (Pq.E_in i_d).h (by omega)).mono ?_
    rintro e w2 ⟨rfl, hb2⟩
    have z2 := hb2.size
    have xb := xb.below hb2 (by omega)
    have b2 := b1.trans (hb2.mono (by omega))
    have i_d := h_d.below b2
    clear hb2
    rw [szR_no (by omega)]
    have xbq := xb
    obtain ⟨xb_0, xb_1, xb_2, xb_3, xb_4, xb_5⟩ := xbq
    have xblt : w.heap.size < w2.heap.size := (by omega)
    go_wp2_with fail
    clear xb_0 xb_1 xb_2 xb_3 xb_4 xb_5 xblt
    go_ret
    exact ⟨ret_int HR.out.symm, b2⟩
end Go.Proofs.Ytnldlbglgalbaab
