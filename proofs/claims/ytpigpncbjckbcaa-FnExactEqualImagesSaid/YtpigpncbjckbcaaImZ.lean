/-
  Image: the laws' own size (written by gen/rec.py).
-/
import Derived.Test.YtpigpncbjckbcaaImB
import Derived.Test.YtpigpncbjckbcaaSTrees
import Derived.Test.YtpigpncbjckbcaaCdL
namespace Go.Proofs.Ytpigpncbjckbcaa
open Go.RowKit

set_option maxRecDepth 100000 in
set_option maxHeartbeats 4000000 in
theorem Im_sz_any (d : Im) (B : Nat) (w : World) (left : Int) (h0 : 0 ≤ left) (h1 : left ≤ 1048576) (hin : Im.E.In w B d) (hB : B ≤ w.heap.size) :
    Calls Try.prog 9 #[Im.val d, .int .i64 left] w fun e w' => e = .returned (.int .i64 (szR (d.bulk) left)) ∧ Below w.heap.size w w' := by
  have h_d := Elem.In.more hin hB
  have hbu : ((d.bulk : Nat) : Int) = (Row.bulk Cd.bulk d.l : Int) := by unfold Im.bulk; omega
  unfold Im.val
  by_cases hz0 : (Row.bulk Cd.bulk d.l : Int) ≤ left
  · skip
    have HR : Hid (szR (d.bulk) left = left - (Row.bulk Cd.bulk d.l : Int)) := by show _ = _; rw [szR_yes (by omega)]; omega
    clear hbu
    have b0 : Below w.heap.size w w := Below.refl _ _
    have i_d := h_d
    go_enter Try.func9, Try.ntmps9
    go_wp2_with fail
    obtain ⟨w1, hw1⟩ : ∃ W, W = w.alloc (.cells #[.slice d.lA d.l.length d.lC, .int .i64 d.m] 26) := ⟨_, rfl⟩
    rw [← hw1]
    have hb1 : Below w.heap.size w w1 := by rw [hw1]; exact (Below.refl _ _).alloc (Nat.le_refl _) _
    have z1 : w.heap.size + 1 ≤ w1.heap.size := by rw [hw1]; simp
    have y1 : w1.heap.size ≤ w.heap.size + 1 := by rw [hw1]; simp
    have xb : Im.Box w1 w.heap.size d := by rw [hw1]; exact Im.Box.new _ _ _
    clear hw1
    have b1 := b0.trans (hb1.mono (by omega))
    have i_d := h_d.below b1
    clear hb1
    have xbq := xb
    obtain ⟨xb_0, xb_1⟩ := xbq
    have xblt : w.heap.size < w1.heap.size := (by omega)
    go_wp2_with fail
    clear xb_0 xb_1 xblt
    refine (Cd_szL_any d.lA d.lC d.l w.heap.size _ (left) (by omega) (by omega) (Im.E_in i_d).l (by omega)).mono ?_
    rintro e w2 ⟨rfl, hb2⟩
    have z2 := hb2.size
    have xb := xb.below hb2 (by omega)
    have b2 := b1.trans (hb2.mono (by omega))
    have i_d := h_d.below b2
    clear hb2
    rw [szR_yes (by omega)]
    have n0 : ¬ (left - (Row.bulk Cd.bulk d.l : Int) < 0) := by omega
    have xbq := xb
    obtain ⟨xb_0, xb_1⟩ := xbq
    have xblt : w.heap.size < w2.heap.size := (by omega)
    go_wp2_with fail
    clear xb_0 xb_1 xblt
    go_ret
    exact ⟨ret_int HR.out.symm, b2⟩
  · skip
    have HR : Hid (szR (d.bulk) left = -1) := szR_no (by omega)
    clear hbu
    have b0 : Below w.heap.size w w := Below.refl _ _
    have i_d := h_d
    go_enter Try.func9, Try.ntmps9
    go_wp2_with fail
    obtain ⟨w1, hw1⟩ : ∃ W, W = w.alloc (.cells #[.slice d.lA d.l.length d.lC, .int .i64 d.m] 26) := ⟨_, rfl⟩
    rw [← hw1]
    have hb1 : Below w.heap.size w w1 := by rw [hw1]; exact (Below.refl _ _).alloc (Nat.le_refl _) _
    have z1 : w.heap.size + 1 ≤ w1.heap.size := by rw [hw1]; simp
    have y1 : w1.heap.size ≤ w.heap.size + 1 := by rw [hw1]; simp
    have xb : Im.Box w1 w.heap.size d := by rw [hw1]; exact Im.Box.new _ _ _
    clear hw1
    have b1 := b0.trans (hb1.mono (by omega))
    have i_d := h_d.below b1
    clear hb1
    have xbq := xb
    obtain ⟨xb_0, xb_1⟩ := xbq
    have xblt : w.heap.size < w1.heap.size := (by omega)
    go_wp2_with fail
    clear xb_0 xb_1 xblt
    refine (Cd_szL_any d.lA d.lC d.l w.heap.size _ (left) (by omega) (by omega) (Im.E_in i_d).l (by omega)).mono ?_
    rintro e w2 ⟨rfl, hb2⟩
    have z2 := hb2.size
    have xb := xb.below hb2 (by omega)
    have b2 := b1.trans (hb2.mono (by omega))
    have i_d := h_d.below b2
    clear hb2
    rw [szR_no (by omega)]
    have xbq := xb
    obtain ⟨xb_0, xb_1⟩ := xbq
    have xblt : w.heap.size < w2.heap.size := (by omega)
    go_wp2_with fail
    clear xb_0 xb_1 xblt
    go_ret
    exact ⟨ret_int HR.out.symm, b2⟩
end Go.Proofs.Ytpigpncbjckbcaa
