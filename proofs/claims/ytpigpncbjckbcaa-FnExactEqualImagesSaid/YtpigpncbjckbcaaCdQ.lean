/-
  Code: the laws' own comparison of what reads the same (written by gen/rec.py).
-/
import Derived.Test.YtpigpncbjckbcaaCdT
import Derived.Test.YtpigpncbjckbcaaNtLq
import Derived.Deep.RegionHeld3
namespace Go.Proofs.Ytpigpncbjckbcaa
open Go.RowKit

set_option maxRecDepth 100000 in
set_option maxHeartbeats 4000000 in
theorem Cd_eq_any (x y : Cd) (B : Nat) (w : World) (he : Cd.er x = Cd.er y) (hx : Cd.E.In w B x) (hy : Cd.E.In w B y) (hB : B ≤ w.heap.size) :
    Calls Try.prog 44 #[Cd.val x, Cd.val y] w fun e w' => e = .returned (.bool true) ∧ Below w.heap.size w w' := by
  have h_x := Elem.In.more hx hB
  have h_y := Elem.In.more hy hB
  obtain ⟨e_p, e_s, e_c, e_l⟩ := Cd.er_parts he
  clear he
  have n_p : (x.p != y.p) = false := by rw [e_p]; simp
  clear e_p
  have n_s : (x.s != y.s) = false := by rw [e_s]; simp
  clear e_s
  have n_c : (x.c != y.c) = false := by rw [e_c]; simp
  clear e_c
  have Q_l := Lib.hid e_l
  clear e_l
  unfold Cd.val
  have b0 : Below w.heap.size w w := Below.refl _ _
  have i_x := h_x
  have i_y := h_y
  go_enter Try.func44, Try.ntmps44
  go_wp2_with fail
  obtain ⟨w2, hw2⟩ : ∃ W, W = (w.alloc (.cells #[.int .i64 x.p, .int .i64 x.s, .int .i64 x.c, .slice x.lA x.l.length x.lC] 48)).alloc (.cells #[.int .i64 y.p, .int .i64 y.s, .int .i64 y.c, .slice y.lA y.l.length y.lC] 48) := ⟨_, rfl⟩
  rw [← hw2]
  have hb2 : Below w.heap.size w w2 := by rw [hw2]; exact ((Below.refl _ _).alloc (Nat.le_refl _) _).alloc (by simp) _
  have z2 : w.heap.size + 2 ≤ w2.heap.size := by rw [hw2]; simp
  have xa : Cd.Box w2 w.heap.size x := by rw [hw2]; exact (Cd.Box.new w x _).below ((Below.refl (w.heap.size + 1) _).alloc (by simp) _) (by omega)
  have xb : Cd.Box w2 (w.heap.size + 1) y := by rw [hw2]; have := Cd.Box.new (w.alloc (.cells #[.int .i64 x.p, .int .i64 x.s, .int .i64 x.c, .slice x.lA x.l.length x.lC] 48)) y 48; simpa using this
  clear hw2
  have b2 := b0.trans (hb2.mono (by omega))
  have i_x := h_x.below b2
  have i_y := h_y.below b2
  clear hb2 b0
  have xaq := xa
  obtain ⟨xa_0, xa_1, xa_2, xa_3⟩ := xaq
  have xalt : w.heap.size < w2.heap.size := (by omega)
  have xbq := xb
  obtain ⟨xb_0, xb_1, xb_2, xb_3⟩ := xbq
  have xblt : w.heap.size + 1 < w2.heap.size := (by omega)
  go_wp2_with fail
  clear xa_0 xa_1 xa_2 xa_3 xalt
  clear xb_0 xb_1 xb_2 xb_3 xblt
  refine (Nt_eqL_any x.lA x.lC x.l y.lA y.lC y.l w.heap.size _ Q_l.out (Cd.E_in i_x).l (Cd.E_in i_y).l (by omega)).mono ?_
  rintro e w3 ⟨rfl, hb3⟩
  have z3 := hb3.size
  have xa := xa.below hb3 (by omega)
  have xb := xb.below hb3 (by omega)
  have b3 := b2.trans (hb3.mono (by omega))
  have i_x := h_x.below b3
  have i_y := h_y.below b3
  clear hb3
  have xaq := xa
  obtain ⟨xa_0, xa_1, xa_2, xa_3⟩ := xaq
  have xalt : w.heap.size < w3.heap.size := (by omega)
  have xbq := xb
  obtain ⟨xb_0, xb_1, xb_2, xb_3⟩ := xbq
  have xblt : w.heap.size + 1 < w3.heap.size := (by omega)
  go_wp2_with fail
  clear xa_0 xa_1 xa_2 xa_3 xalt
  clear xb_0 xb_1 xb_2 xb_3 xblt
  go_ret
  exact ⟨rfl, b3⟩
end Go.Proofs.Ytpigpncbjckbcaa
