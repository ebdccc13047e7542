/-
  Instr: the laws' own size (written by gen/rec.py).
-/
import Derived.Test.YtpigpncbjckbcaaDoorNtB
import Derived.Test.YtpigpncbjckbcaaDoorSTrees
namespace Go.Proofs.YtpigpncbjckbcaaDoor
open Go.RowKit

set_option maxRecDepth 100000 in
set_option maxHeartbeats 4000000 in
theorem Nt_sz_any (d : Nt) (B : Nat) (w : World) (left : Int) (h0 : 0 ≤ left) (h1 : left ≤ 1048576) (hin : Nt.E.In w B d) (hB : B ≤ w.heap.size) :
    Calls Tryd.prog 4 #[Nt.val d, .int .i64 left] w fun e w' => e = .returned (.int .i64 (szR (d.bulk) left)) ∧ Below w.heap.size w w' := by
  have h_d := Elem.In.more hin hB
  have hbu : ((d.bulk : Nat) : Int) = (d.t.bulk : Int) := by unfold Nt.bulk; omega
  unfold Nt.val
  by_cases hz0 : (d.t.bulk : Int) ≤ left
  · skip
    have HR : Hid (szR (d.bulk) left = left - (d.t.bulk : Int)) := by show _ = _; rw [szR_yes (by omega)]; omega
    clear hbu
    have b0 : Below w.heap.size w w := Below.refl _ _
    have i_d := h_d
    go_enter Tryd.func4, Tryd.ntmps4
    go_wp2_with fail
    obtain ⟨w1, hw1⟩ : ∃ W, W = w.alloc (.cells #[.int .i64 d.o, .int .i64 d.i, .int .i64 d.t.k, .int .i64 d.t.n, .string d.t.t, .slice d.t.A d.t.l.length d.t.c] 26) := ⟨_, rfl⟩
    rw [← hw1]
    have hb1 : Below w.heap.size w w1 := by rw [hw1]; exact (Below.refl _ _).alloc (Nat.le_refl _) _
    have z1 : w.heap.size + 1 ≤ w1.heap.size := by rw [hw1]; simp
    have y1 : w1.heap.size ≤ w.heap.size + 1 := by rw [hw1]; simp
    have xb : Nt.Box w1 w.heap.size d := by rw [hw1]; exact Nt.Box.new _ _ _
    clear hw1
    have b1 := b0.trans (hb1.mono (by omega))
    have i_d := h_d.below b1
    clear hb1
    have xbq := xb
    obtain ⟨xb_0, xb_1, xb_2, xb_3, xb_4, xb_5⟩ := xbq
    have xblt : w.heap.size < w1.heap.size := (by omega)
    go_wp2_with fail
    clear xb_0 xb_1 xb_2 xb_3 xb_4 xb_5 xblt
    refine (sz_any _ d.t w.heap.size _ (left) (Nat.le_refl _) (by omega) (by omega) (Nt.E_in i_d).t (by omega)).mono ?_
    rintro e w2 ⟨rfl, hb2⟩
    have z2 := hb2.size
    have xb := xb.below hb2 (by omega)
    have b2 := b1.trans (hb2.mono (by omega))
    have i_d := h_d.below b2
    clear hb2
    rw [szR_yes (by omega)]
    have n0 : ¬ (left - (d.t.bulk : Int) < 0) := by omega
    have xbq := xb
    obtain ⟨xb_0, xb_1, xb_2, xb_3, xb_4, xb_5⟩ := xbq
    have xblt : w.heap.size < w2.heap.size := (by omega)
    go_wp2_with fail
    clear xb_0 xb_1 xb_2 xb_3 xb_4 xb_5 xblt
    go_ret
    exact ⟨ret_int HR.out.symm, b2⟩
  · skip
    have HR : Hid (szR (d.bulk) left = -1) := szR_no (by omega)
    clear hbu
    have b0 : Below w.heap.size w w := Below.refl _ _
    have i_d := h_d
    go_enter Tryd.func4, Tryd.ntmps4
    go_wp2_with fail
    obtain ⟨w1, hw1⟩ : ∃ W, W = w.alloc (.cells #[.int .i64 d.o, .int .i64 d.i, .int .i64 d.t.k, .int .i64 d.t.n, .string d.t.t, .slice d.t.A d.t.l.length d.t.c] 26) := ⟨_, rfl⟩
    rw [← hw1]
    have hb1 : Below w.heap.size w w1 := by rw [hw1]; exact (Below.refl _ _).alloc (Nat.le_refl _) _
    have z1 : w.heap.size + 1 ≤ w1.heap.size := by rw [hw1]; simp
    have y1 : w1.heap.size ≤ w.heap.size + 1 := by rw [hw1]; simp
    have xb : Nt.Box w1 w.heap.size d := by rw [hw1]; exact Nt.Box.new _ _ _
    clear hw1
    have b1 := b0.trans (hb1.mono (by omega))
    have i_d := h_d.below b1
    clear hb1
    have xbq := xb
    obtain ⟨xb_0, xb_1, xb_2, xb_3, xb_4, xb_5⟩ := xbq
    have xblt : w.heap.size < w1.heap.size := (by omega)
    go_wp2_with fail
    clear xb_0 xb_1 xb_2 xb_3 xb_4 xb_5 xblt
    refine (sz_any _ d.t w.heap.size _ (left) (Nat.le_refl _) (by omega) (by omega) (Nt.E_in i_d).t (by omega)).mono ?_
    rintro e w2 ⟨rfl, hb2⟩
    have z2 := hb2.size
    have xb := xb.below hb2 (by omega)
    have b2 := b1.trans (hb2.mono (by omega))
    have i_d := h_d.below b2
    clear hb2
    rw [szR_no (by omega)]
    have xbq := xb
    obtain ⟨xb_0, xb_1, xb_2, xb_3, xb_4, xb_5⟩ := xbq
    have xblt : w.heap.size < w2.heap.size := (by omega)
    go_wp2_with fail
    clear xb_0 xb_1 xb_2 xb_3 xb_4 xb_5 xblt
    go_ret
    exact ⟨ret_int HR.out.symm, b2⟩
end Go.Proofs.YtpigpncbjckbcaaDoor
