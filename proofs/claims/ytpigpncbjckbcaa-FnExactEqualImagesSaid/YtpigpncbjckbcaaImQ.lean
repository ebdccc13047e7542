/-
  Image: the laws' own comparison of what reads the same (written by gen/rec.py).
-/
import Derived.Test.YtpigpncbjckbcaaImT
import Derived.Test.YtpigpncbjckbcaaCdLq
import Derived.Deep.RegionHeld3
namespace Go.Proofs.Ytpigpncbjckbcaa
open Go.RowKit

set_option maxRecDepth 100000 in
set_option maxHeartbeats 4000000 in
theorem Im_eq_any (x y : Im) (B : Nat) (w : World) (he : Im.er x = Im.er y) (hx : Im.E.In w B x) (hy : Im.E.In w B y) (hB : B ≤ w.heap.size) :
    Calls Try.prog 13 #[Im.val x, Im.val y] w fun e w' => e = .returned (.bool true) ∧ Below w.heap.size w w' := by
  have h_x := Elem.In.more hx hB
  have h_y := Elem.In.more hy hB
  obtain ⟨e_l, e_m⟩ := Im.er_parts he
  clear he
  have Q_l := Lib.hid e_l
  clear e_l
  have n_m : (x.m != y.m) = false := by rw [e_m]; simp
  clear e_m
  unfold Im.val
  have b0 : Below w.heap.size w w := Below.refl _ _
  have i_x := h_x
  have i_y := h_y
  go_enter Try.func13, Try.ntmps13
  go_wp2_with fail
  obtain ⟨w2, hw2⟩ : ∃ W, W = (w.alloc (.cells #[.slice x.lA x.l.length x.lC, .int .i64 x.m] 31)).alloc (.cells #[.slice y.lA y.l.length y.lC, .int .i64 y.m] 31) := ⟨_, rfl⟩
  rw [← hw2]
  have hb2 : Below w.heap.size w w2 := by rw [hw2]; exact ((Below.refl _ _).alloc (Nat.le_refl _) _).alloc (by simp) _
  have z2 : w.heap.size + 2 ≤ w2.heap.size := by rw [hw2]; simp
  have xa : Im.Box w2 w.heap.size x := by rw [hw2]; exact (Im.Box.new w x _).below ((Below.refl (w.heap.size + 1) _).alloc (by simp) _) (by omega)
  have xb : Im.Box w2 (w.heap.size + 1) y := by rw [hw2]; have := Im.Box.new (w.alloc (.cells #[.slice x.lA x.l.length x.lC, .int .i64 x.m] 31)) y 31; simpa using this
  clear hw2
  have b2 := b0.trans (hb2.mono (by omega))
  have i_x := h_x.below b2
  have i_y := h_y.below b2
  clear hb2 b0
  have xaq := xa
  obtain ⟨xa_0, xa_1⟩ := xaq
  have xalt : w.heap.size < w2.heap.size := (by omega)
  have xbq := xb
  obtain ⟨xb_0, xb_1⟩ := xbq
  have xblt : w.heap.size + 1 < w2.heap.size := (by omega)
  go_wp2_with fail
  clear xa_0 xa_1 xalt
  clear xb_0 xb_1 xblt
  refine (Cd_eqL_any x.lA x.lC x.l y.lA y.lC y.l w.heap.size _ Q_l.out (Im.E_in i_x).l (Im.E_in i_y).l (by omega)).mono ?_
  rintro e w3 ⟨rfl, hb3⟩
  have z3 := hb3.size
  have xa := xa.below hb3 (by omega)
  have xb := xb.below hb3 (by omega)
  have b3 := b2.trans (hb3.mono (by omega))
  have i_x := h_x.below b3
  have i_y := h_y.below b3
  clear hb3
  have xaq := xa
  obtain ⟨xa_0, xa_1⟩ := xaq
  have xalt : w.heap.size < w3.heap.size := (by omega)
  have xbq := xb
  obtain ⟨xb_0, xb_1⟩ := xbq
  have xblt : w.heap.size + 1 < w3.heap.size := (by omega)
  go_wp2_with fail
  clear xa_0 xa_1 xalt
  clear xb_0 xb_1 xblt
  go_ret
  exact ⟨rfl, b3⟩
end Go.Proofs.Ytpigpncbjckbcaa
