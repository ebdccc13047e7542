/-
  Pair: the laws' own comparison of what reads the same (written by gen/rec.py).
-/
import Derived.Test.YtnldlbglgalbaabPqT
import Derived.Test.YtnldlbglgalbaabVuQ
import Derived.Deep.RegionHeld3
namespace Go.Proofs.Ytnldlbglgalbaab
open Go.RowKit

set_option maxRecDepth 100000 in
set_option maxHeartbeats 4000000 in
theorem Pq_eq_any (x y : Pq) (B : Nat) (w : World) (he : Pq.er x = Pq.er y) (hx : Pq.E.In w B x) (hy : Pq.E.In w B y) (hB : B ≤ w.heap.size) :
    Calls Try.prog 28 #[Pq.val x, Pq.val y] w fun e w' => e = .returned (.bool true) ∧ Below w.heap.size w w' := by
  have h_x := Elem.In.more hx hB
  have h_y := Elem.In.more hy hB
  obtain ⟨e_h, e_u⟩ := Pq.er_parts he
  clear he
  have Q_h := Lib.hid e_h
  clear e_h
  have Q_u := Lib.hid e_u
  clear e_u
  unfold Pq.val
  have b0 : Below w.heap.size w w := Below.refl _ _
  have i_x := h_x
  have i_y := h_y
  go_enter Try.func28, Try.ntmps28
  go_wp2_with fail
  obtain ⟨w2, hw2⟩ : ∃ W, W = (w.alloc (.cells #[.int .i64 x.h.k, .int .i64 x.h.n, .string x.h.t, .int .i64 x.u.k, .int .i64 x.u.n, .string x.u.t] 48)).alloc (.cells #[.int .i64 y.h.k, .int .i64 y.h.n, .string y.h.t, .int .i64 y.u.k, .int .i64 y.u.n, .string y.u.t] 48) := ⟨_, rfl⟩
  rw [← hw2]
  have hb2 : Below w.heap.size w w2 := by rw [hw2]; exact ((Below.refl _ _).alloc (Nat.le_refl _) _).alloc (by simp) _
  have z2 : w.heap.size + 2 ≤ w2.heap.size := by rw [hw2]; simp
  have xa : Pq.Box w2 w.heap.size x := by rw [hw2]; exact (Pq.Box.new w x _).below ((Below.refl (w.heap.size + 1) _).alloc (by simp) _) (by omega)
  have xb : Pq.Box w2 (w.heap.size + 1) y := by rw [hw2]; have := Pq.Box.new (w.alloc (.cells #[.int .i64 x.h.k, .int .i64 x.h.n, .string x.h.t, .int .i64 x.u.k, .int .i64 x.u.n, .string x.u.t] 48)) y 48; simpa using this
  clear hw2
  have b2 := b0.trans (hb2.mono (by omega))
  have i_x := h_x.below b2
  have i_y := h_y.below b2
  clear hb2 b0
  have xaq := xa
  obtain ⟨xa_0, xa_1, xa_2, xa_3, xa_4, xa_5⟩ := xaq
  have xalt : w.heap.size < w2.heap.size := (by omega)
  have xbq := xb
  obtain ⟨xb_0, xb_1, xb_2, xb_3, xb_4, xb_5⟩ := xbq
  have xblt : w.heap.size + 1 < w2.heap.size := (by omega)
  go_wp2_with fail
  clear xa_0 xa_1 xa_2 xa_3 xa_4 xa_5 xalt
  clear xb_0 xb_1 xb_2 xb_3 xb_4 xb_5 xblt
  refine (Vu_eq_any x.h y.h w.heap.size _ Q_h.out (Pq.E_in i_x).h (Pq.E_in i_y).h (by omega)).mono ?_
  rintro e w3 ⟨rfl, hb3⟩
  have z3 := hb3.size
  have xa := xa.below hb3 (by omega)
  have xb := xb.below hb3 (by omega)
  have b3 := b2.trans (hb3.mono (by omega))
  have i_x := h_x.below b3
  have i_y := h_y.below b3
  clear hb3
  have xaq := xa
  obtain ⟨xa_0, xa_1, xa_2, xa_3, xa_4, xa_5⟩ := xaq
  have xalt : w.heap.size < w3.heap.size := (by omega)
  have xbq := xb
  obtain ⟨xb_0, xb_1, xb_2, xb_3, xb_4, xb_5⟩ := xbq
  have xblt : w.heap.size + 1 < w3.heap.size := (by omega)
  go_wp2_with fail
  clear xa_0 xa_1 xa_2 xa_3 xa_4 xa_5 xalt
  clear xb_0 xb_1 xb_2 xb_3 xb_4 xb_5 xblt
  refine (Vu_eq_any x.u y.u w.heap.size _ Q_u.out (Pq.E_in i_x).u (Pq.E_in i_y).u (by omega)).mono ?_
  rintro e w4 ⟨rfl, hb4⟩
  have z4 := hb4.size
  have xa := xa.below hb4 (by omega)
  have xb := xb.below hb4 (by omega)
  have b4 := b3.trans (hb4.mono (by omega))
  have i_x := h_x.below b4
  have i_y := h_y.below b4
  clear hb4
  have xaq := xa
  obtain ⟨xa_0, xa_1, xa_2, xa_3, xa_4, xa_5⟩ := xaq
  have xalt : w.heap.size < w4.heap.size := (by omega)
  have xbq := xb
  obtain ⟨xb_0, xb_1, xb_2, xb_3, xb_4, xb_5⟩ := xbq
  have xblt : w.heap.size + 1 < w4.heap.size := (by omega)
  go_wp2_with fail
  clear xa_0 xa_1 xa_2 xa_3 xa_4 xa_5 xalt
  clear xb_0 xb_1 xb_2 xb_3 xb_4 xb_5 xblt
  go_ret
  exact ⟨rfl, b4⟩
end Go.Proofs.Ytnldlbglgalbaab
