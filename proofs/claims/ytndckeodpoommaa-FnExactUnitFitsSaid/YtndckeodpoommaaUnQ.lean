/-
  Unit: the laws' own comparison of what reads the same (written by gen/rec.py).
-/
import Derived.Test.YtndckeodpoommaaUnT
import Derived.Test.YtndckeodpoommaaKoCopy
import Derived.Deep.RegionHeld3
namespace Go.Proofs.Ytndckeodpoommaa
open Go.RowKit

set_option maxRecDepth 100000 in
set_option maxHeartbeats 4000000 in
theorem Un_eq_any (x y : Un) (B : Nat) (w : World) (he : Un.er x = Un.er y) (hx : Un.E.In w B x) (hy : Un.E.In w B y) (hB : B ≤ w.heap.size) :
    Calls Try.prog 33 #[Un.val x, Un.val y] w fun e w' => e = .returned (.bool true) ∧ Below w.heap.size w w' := by
  have h_x := Elem.In.more hx hB
  have h_y := Elem.In.more hy hB
  obtain ⟨e_nm, e_g, e_b⟩ := Un.er_parts he
  clear he
  have n_nm : (x.nm.toList == y.nm.toList) = true := by rw [e_nm]; simp
  clear e_nm
  have Q_g := Lib.hid (show (x.g == y.g) = true by rw [e_g]; exact beq_self_eq_true _)
  clear e_g
  have Q_b := Lib.hid e_b
  clear e_b
  unfold Un.val
  have b0 : Below w.heap.size w w := Below.refl _ _
  have i_x := h_x
  have i_y := h_y
  go_enter Try.func33, Try.ntmps33
  go_wp2_with fail
  obtain ⟨w2, hw2⟩ : ∃ W, W = (w.alloc (.cells #[.string x.nm, .slice x.gA x.g.length x.gC, .int .i64 x.b.a.k, .int .i64 x.b.a.n, .slice x.b.a.sA x.b.a.s.length x.b.a.sC, .int .i64 x.b.a.d.k, .int .i64 x.b.a.d.n, .string x.b.a.d.t, .slice x.b.a.d.A x.b.a.d.l.length x.b.a.d.c, .slice x.b.A x.b.l.length x.b.c] 77)).alloc (.cells #[.string y.nm, .slice y.gA y.g.length y.gC, .int .i64 y.b.a.k, .int .i64 y.b.a.n, .slice y.b.a.sA y.b.a.s.length y.b.a.sC, .int .i64 y.b.a.d.k, .int .i64 y.b.a.d.n, .string y.b.a.d.t, .slice y.b.a.d.A y.b.a.d.l.length y.b.a.d.c, .slice y.b.A y.b.l.length y.b.c] 77) := ⟨_, rfl⟩
  rw [← hw2]
  have hb2 : Below w.heap.size w w2 := by rw [hw2]; exact ((Below.refl _ _).alloc (Nat.le_refl _) _).alloc (by simp) _
  have z2 : w.heap.size + 2 ≤ w2.heap.size := by rw [hw2]; simp
  have xa : Un.Box w2 w.heap.size x := by rw [hw2]; exact (Un.Box.new w x _).below ((Below.refl (w.heap.size + 1) _).alloc (by simp) _) (by omega)
  have xb : Un.Box w2 (w.heap.size + 1) y := by rw [hw2]; have := Un.Box.new (w.alloc (.cells #[.string x.nm, .slice x.gA x.g.length x.gC, .int .i64 x.b.a.k, .int .i64 x.b.a.n, .slice x.b.a.sA x.b.a.s.length x.b.a.sC, .int .i64 x.b.a.d.k, .int .i64 x.b.a.d.n, .string x.b.a.d.t, .slice x.b.a.d.A x.b.a.d.l.length x.b.a.d.c, .slice x.b.A x.b.l.length x.b.c] 77)) y 77; simpa using this
  clear hw2
  have b2 := b0.trans (hb2.mono (by omega))
  have i_x := h_x.below b2
  have i_y := h_y.below b2
  clear hb2 b0
  have xaq := xa
  obtain ⟨xa_0, xa_1, xa_2, xa_3, xa_4, xa_5, xa_6, xa_7, xa_8, xa_9⟩ := xaq
  have xalt : w.heap.size < w2.heap.size := (by omega)
  have xbq := xb
  obtain ⟨xb_0, xb_1, xb_2, xb_3, xb_4, xb_5, xb_6, xb_7, xb_8, xb_9⟩ := xbq
  have xblt : w.heap.size + 1 < w2.heap.size := (by omega)
  go_wp2_with fail
  clear xa_0 xa_1 xa_2 xa_3 xa_4 xa_5 xa_6 xa_7 xa_8 xa_9 xalt
  clear xb_0 xb_1 xb_2 xb_3 xb_4 xb_5 xb_6 xb_7 xb_8 xb_9 xblt
  refine (eqI_any x.gA x.gC x.g y.gA y.gC y.g w.heap.size _ (Un.E_in i_x).g (Un.E_in i_y).g (by omega)).mono ?_
  rintro e w3 ⟨rfl, hb3⟩
  have z3 := hb3.size
  have xa := xa.below hb3 (by omega)
  have xb := xb.below hb3 (by omega)
  have b3 := b2.trans (hb3.mono (by omega))
  have i_x := h_x.below b3
  have i_y := h_y.below b3
  clear hb3
  rw [Q_g.out]
  have xaq := xa
  obtain ⟨xa_0, xa_1, xa_2, xa_3, xa_4, xa_5, xa_6, xa_7, xa_8, xa_9⟩ := xaq
  have xalt : w.heap.size < w3.heap.size := (by omega)
  have xbq := xb
  obtain ⟨xb_0, xb_1, xb_2, xb_3, xb_4, xb_5, xb_6, xb_7, xb_8, xb_9⟩ := xbq
  have xblt : w.heap.size + 1 < w3.heap.size := (by omega)
  go_wp2_with fail
  clear xa_0 xa_1 xa_2 xa_3 xa_4 xa_5 xa_6 xa_7 xa_8 xa_9 xalt
  clear xb_0 xb_1 xb_2 xb_3 xb_4 xb_5 xb_6 xb_7 xb_8 xb_9 xblt
  refine (Ko_eq_any _ x.b y.b w.heap.size _ (Nat.le_refl _) Q_b.out (Un.E_in i_x).b (Un.E_in i_y).b (by omega)).mono ?_
  rintro e w4 ⟨rfl, hb4⟩
  have z4 := hb4.size
  have xa := xa.below hb4 (by omega)
  have xb := xb.below hb4 (by omega)
  have b4 := b3.trans (hb4.mono (by omega))
  have i_x := h_x.below b4
  have i_y := h_y.below b4
  clear hb4
  have xaq := xa
  obtain ⟨xa_0, xa_1, xa_2, xa_3, xa_4, xa_5, xa_6, xa_7, xa_8, xa_9⟩ := xaq
  have xalt : w.heap.size < w4.heap.size := (by omega)
  have xbq := xb
  obtain ⟨xb_0, xb_1, xb_2, xb_3, xb_4, xb_5, xb_6, xb_7, xb_8, xb_9⟩ := xbq
  have xblt : w.heap.size + 1 < w4.heap.size := (by omega)
  go_wp2_with fail
  clear xa_0 xa_1 xa_2 xa_3 xa_4 xa_5 xa_6 xa_7 xa_8 xa_9 xalt
  clear xb_0 xb_1 xb_2 xb_3 xb_4 xb_5 xb_6 xb_7 xb_8 xb_9 xblt
  go_ret
  exact ⟨rfl, b4⟩
end Go.Proofs.Ytndckeodpoommaa
