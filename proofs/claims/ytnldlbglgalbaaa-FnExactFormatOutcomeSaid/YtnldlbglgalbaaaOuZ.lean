/-
  Outcome: the laws' own size (written by gen/rec.py).
-/
import Derived.Test.YtnldlbglgalbaaaOuB
import Derived.Test.YtnldlbglgalbaaaSTrees
import Derived.Test.YtnldlbglgalbaaaSgB
namespace Go.Proofs.Ytnldlbglgalbaaa
open Go.RowKit

set_option maxRecDepth 100000 in
set_option maxHeartbeats 4000000 in
theorem Ou_sz_any (d : Ou) (B : Nat) (w : World) (left : Int) (h0 : 0 ≤ left) (h1 : left ≤ 1048576) (hin : Ou.E.In w B d) (hB : B ≤ w.heap.size) :
    Calls Try.prog 20 #[Ou.val d, .int .i64 left] w fun e w' => e = .returned (.int .i64 (szR (d.bulk) left)) ∧ Below w.heap.size w w' := by
  have h_d := Elem.In.more hin hB
  have hbu : ((d.bulk : Nat) : Int) = (d.t.size : Int) + (Row.bulk Sg.bulk d.o : Int) := by unfold Ou.bulk; omega
  have hin_t := (Ou.E_in hin).t
  unfold Ou.val
  by_cases hz0 : (d.t.size : Int) ≤ left
  · skip
    by_cases hz1 : (Row.bulk Sg.bulk d.o : Int) ≤ left - (d.t.size : Int)
    · skip
      have HR : Hid (szR (d.bulk) left = left - (d.t.size : Int) - (Row.bulk Sg.bulk d.o : Int)) := by show _ = _; rw [szR_yes (by omega)]; omega
      clear hbu
      have b0 : Below w.heap.size w w := Below.refl _ _
      have i_d := h_d
      go_enter Try.func20, Try.ntmps20
      have n0 : ¬ (left - (d.t.size : Int) < 0) := by omega
      go_wp2_with fail
      obtain ⟨w1, hw1⟩ : ∃ W, W = w.alloc (.cells #[.int .i64 d.s, .string d.t, .slice d.oA d.o.length d.oC, .int .i64 d.i, .int .i64 d.m] 40) := ⟨_, rfl⟩
      rw [← hw1]
      have hb1 : Below w.heap.size w w1 := by rw [hw1]; exact (Below.refl _ _).alloc (Nat.le_refl _) _
      have z1 : w.heap.size + 1 ≤ w1.heap.size := by rw [hw1]; simp
      have y1 : w1.heap.size ≤ w.heap.size + 1 := by rw [hw1]; simp
      have xb : Ou.Box w1 w.heap.size d := by rw [hw1]; exact Ou.Box.new _ _ _
      clear hw1
      have b1 := b0.trans (hb1.mono (by omega))
      have i_d := h_d.below b1
      clear hb1
      have xbq := xb
      obtain ⟨xb_0, xb_1, xb_2, xb_3, xb_4⟩ := xbq
      have xblt : w.heap.size < w1.heap.size := (by omega)
      go_wp2_with fail
      clear xb_0 xb_1 xb_2 xb_3 xb_4 xblt
      refine (Sg_szL_any d.oA d.oC d.o w.heap.size _ (left - (d.t.size : Int)) (by omega) (by omega) (Ou.E_in i_d).o (by omega)).mono ?_
      rintro e w2 ⟨rfl, hb2⟩
      have z2 := hb2.size
      have xb := xb.below hb2 (by omega)
      have b2 := b1.trans (hb2.mono (by omega))
      have i_d := h_d.below b2
      clear hb2
      rw [szR_yes (by omega)]
      have n1 : ¬ (left - (d.t.size : Int) - (Row.bulk Sg.bulk d.o : Int) < 0) := by omega
      have xbq := xb
      obtain ⟨xb_0, xb_1, xb_2, xb_3, xb_4⟩ := xbq
      have xblt : w.heap.size < w2.heap.size := (by omega)
      go_wp2_with fail
      clear xb_0 xb_1 xb_2 xb_3 xb_4 xblt
      go_ret
      exact ⟨ret_int HR.out.symm, b2⟩
    · skip
      have HR : Hid (szR (d.bulk) left = -1) := szR_no (by omega)
      clear hbu
      have b0 : Below w.heap.size w w := Below.refl _ _
      have i_d := h_d
      go_enter Try.func20, Try.ntmps20
      have n0 : ¬ (left - (d.t.size : Int) < 0) := by omega
      go_wp2_with fail
      obtain ⟨w1, hw1⟩ : ∃ W, W = w.alloc (.cells #[.int .i64 d.s, .string d.t, .slice d.oA d.o.length d.oC, .int .i64 d.i, .int .i64 d.m] 40) := ⟨_, rfl⟩
      rw [← hw1]
      have hb1 : Below w.heap.size w w1 := by rw [hw1]; exact (Below.refl _ _).alloc (Nat.le_refl _) _
      have z1 : w.heap.size + 1 ≤ w1.heap.size := by rw [hw1]; simp
      have y1 : w1.heap.size ≤ w.heap.size + 1 := by rw [hw1]; simp
      have xb : Ou.Box w1 w.heap.size d := by rw [hw1]; exact Ou.Box.new _ _ _
      clear hw1
      have b1 := b0.trans (hb1.mono (by omega))
      have i_d := h_d.below b1
      clear hb1
      have xbq := xb
      obtain ⟨xb_0, xb_1, xb_2, xb_3, xb_4⟩ := xbq
      have xblt : w.heap.size < w1.heap.size := (by omega)
      go_wp2_with fail
      clear xb_0 xb_1 xb_2 xb_3 xb_4 xblt
      refine (Sg_szL_any d.oA d.oC d.o w.heap.size _ (left - (d.t.size : Int)) (by omega) (by omega) (Ou.E_in i_d).o (by omega)).mono ?_
      rintro e w2 ⟨rfl, hb2⟩
      have z2 := hb2.size
      have xb := xb.below hb2 (by omega)
      have b2 := b1.trans (hb2.mono (by omega))
      have i_d := h_d.below b2
      clear hb2
      rw [szR_no (by omega)]
      have xbq := xb
      obtain ⟨xb_0, xb_1, xb_2, xb_3, xb_4⟩ := xbq
      have xblt : w.heap.size < w2.heap.size := (by omega)
      go_wp2_with fail
      clear xb_0 xb_1 xb_2 xb_3 xb_4 xblt
      go_ret
      exact ⟨ret_int HR.out.symm, b2⟩
  · skip
    have HR : Hid (szR (d.bulk) left = -1) := szR_no (by omega)
    clear hbu
    have b0 : Below w.heap.size w w := Below.refl _ _
    have i_d := h_d
    go_enter Try.func20, Try.ntmps20
    have n0 : left - (d.t.size : Int) < 0 := by omega
    go_wp2_with fail
    go_ret
    exact ⟨ret_int HR.out.symm, (Below.refl _ _).alloc (Nat.le_refl _) _⟩
end Go.Proofs.Ytnldlbglgalbaaa
