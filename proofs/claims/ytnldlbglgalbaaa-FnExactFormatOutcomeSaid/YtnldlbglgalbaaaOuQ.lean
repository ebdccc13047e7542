/-
  Outcome: the laws' own comparison of what reads the same (written by gen/rec.py).
-/
import Derived.Test.YtnldlbglgalbaaaOuT
import Derived.Test.YtnldlbglgalbaaaSgB
import Derived.Deep.RegionHeld3
namespace Go.Proofs.Ytnldlbglgalbaaa
open Go.RowKit

set_option maxRecDepth 100000 in
set_option maxHeartbeats 4000000 in
theorem Ou_eq_any (x y : Ou) (B : Nat) (w : World) (he : Ou.er x = Ou.er y) (hx : Ou.E.In w B x) (hy : Ou.E.In w B y) (hB : B ≤ w.heap.size) :
    Calls Try.prog 24 #[Ou.val x, Ou.val y] w fun e w' => e = .returned (.bool true) ∧ Below w.heap.size w w' := by
  have h_x := Elem.In.more hx hB
  have h_y := Elem.In.more hy hB
  obtain ⟨e_s, e_t, e_o, e_i, e_m⟩ := Ou.er_parts he
  clear he
  have n_s : (x.s != y.s) = false := by rw [e_s]; simp
  clear e_s
  have n_t : (x.t.toList == y.t.toList) = true := by rw [e_t]; simp
  clear e_t
  have Q_o := Lib.hid e_o
  clear e_o
  have n_i : (x.i != y.i) = false := by rw [e_i]; simp
  clear e_i
  have n_m : (x.m != y.m) = false := by rw [e_m]; simp
  clear e_m
  unfold Ou.val
  have b0 : Below w.heap.size w w := Below.refl _ _
  have i_x := h_x
  have i_y := h_y
  go_enter Try.func24, Try.ntmps24
  go_wp2_with fail
  obtain ⟨w2, hw2⟩ : ∃ W, W = (w.alloc (.cells #[.int .i64 x.s, .string x.t, .slice x.oA x.o.length x.oC, .int .i64 x.i, .int .i64 x.m] 43)).alloc (.cells #[.int .i64 y.s, .string y.t, .slice y.oA y.o.length y.oC, .int .i64 y.i, .int .i64 y.m] 43) := ⟨_, rfl⟩
  rw [← hw2]
  have hb2 : Below w.heap.size w w2 := by rw [hw2]; exact ((Below.refl _ _).alloc (Nat.le_refl _) _).alloc (by simp) _
  have z2 : w.heap.size + 2 ≤ w2.heap.size := by rw [hw2]; simp
  have xa : Ou.Box w2 w.heap.size x := by rw [hw2]; exact (Ou.Box.new w x _).below ((Below.refl (w.heap.size + 1) _).alloc (by simp) _) (by omega)
  have xb : Ou.Box w2 (w.heap.size + 1) y := by rw [hw2]; have := Ou.Box.new (w.alloc (.cells #[.int .i64 x.s, .string x.t, .slice x.oA x.o.length x.oC, .int .i64 x.i, .int .i64 x.m] 43)) y 43; simpa using this
  clear hw2
  have b2 := b0.trans (hb2.mono (by omega))
  have i_x := h_x.below b2
  have i_y := h_y.below b2
  clear hb2 b0
  have xaq := xa
  obtain ⟨xa_0, xa_1, xa_2, xa_3, xa_4⟩ := xaq
  have xalt : w.heap.size < w2.heap.size := (by omega)
  have xbq := xb
  obtain ⟨xb_0, xb_1, xb_2, xb_3, xb_4⟩ := xbq
  have xblt : w.heap.size + 1 < w2.heap.size := (by omega)
  go_wp2_with fail
  clear xa_0 xa_1 xa_2 xa_3 xa_4 xalt
  clear xb_0 xb_1 xb_2 xb_3 xb_4 xblt
  refine (Sg_eqL_any x.oA x.oC x.o y.oA y.oC y.o w.heap.size _ Q_o.out (Ou.E_in i_x).o (Ou.E_in i_y).o (by omega)).mono ?_
  rintro e w3 ⟨rfl, hb3⟩
  have z3 := hb3.size
  have xa := xa.below hb3 (by omega)
  have xb := xb.below hb3 (by omega)
  have b3 := b2.trans (hb3.mono (by omega))
  have i_x := h_x.below b3
  have i_y := h_y.below b3
  clear hb3
  have xaq := xa
  obtain ⟨xa_0, xa_1, xa_2, xa_3, xa_4⟩ := xaq
  have xalt : w.heap.size < w3.heap.size := (by omega)
  have xbq := xb
  obtain ⟨xb_0, xb_1, xb_2, xb_3, xb_4⟩ := xbq
  have xblt : w.heap.size + 1 < w3.heap.size := (by omega)
  go_wp2_with fail
  clear xa_0 xa_1 xa_2 xa_3 xa_4 xalt
  clear xb_0 xb_1 xb_2 xb_3 xb_4 xblt
  go_ret
  exact ⟨rfl, b3⟩
end Go.Proofs.Ytnldlbglgalbaaa
