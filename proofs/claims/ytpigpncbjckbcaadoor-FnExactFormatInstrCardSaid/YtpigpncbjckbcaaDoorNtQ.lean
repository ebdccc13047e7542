/-
  Instr: the laws' own comparison of what reads the same (written by gen/rec.py).
-/
import Derived.Test.YtpigpncbjckbcaaDoorNtT
import Derived.Deep.RegionHeld3
namespace Go.Proofs.YtpigpncbjckbcaaDoor
open Go.RowKit

set_option maxRecDepth 100000 in
set_option maxHeartbeats 4000000 in
theorem Nt_eq_any (x y : Nt) (B : Nat) (w : World) (he : Nt.er x = Nt.er y) (hx : Nt.E.In w B x) (hy : Nt.E.In w B y) (hB : B ≤ w.heap.size) :
    Calls Tryd.prog 8 #[Nt.val x, Nt.val y] w fun e w' => e = .returned (.bool true) ∧ Below w.heap.size w w' := by
  have h_x := Elem.In.more hx hB
  have h_y := Elem.In.more hy hB
  obtain ⟨e_o, e_i, e_t⟩ := Nt.er_parts he
  clear he
  have n_o : (x.o != y.o) = false := by rw [e_o]; simp
  clear e_o
  have n_i : (x.i != y.i) = false := by rw [e_i]; simp
  clear e_i
  have Q_t := Lib.hid (show D.eqB x.t y.t = true from D.eqB_of_er e_t)
  clear e_t
  unfold Nt.val
  have b0 : Below w.heap.size w w := Below.refl _ _
  have i_x := h_x
  have i_y := h_y
  go_enter Tryd.func8, Tryd.ntmps8
  go_wp2_with fail
  obtain ⟨w2, hw2⟩ : ∃ W, W = (w.alloc (.cells #[.int .i64 x.o, .int .i64 x.i, .int .i64 x.t.k, .int .i64 x.t.n, .string x.t.t, .slice x.t.A x.t.l.length x.t.c] 33)).alloc (.cells #[.int .i64 y.o, .int .i64 y.i, .int .i64 y.t.k, .int .i64 y.t.n, .string y.t.t, .slice y.t.A y.t.l.length y.t.c] 33) := ⟨_, rfl⟩
  rw [← hw2]
  have hb2 : Below w.heap.size w w2 := by rw [hw2]; exact ((Below.refl _ _).alloc (Nat.le_refl _) _).alloc (by simp) _
  have z2 : w.heap.size + 2 ≤ w2.heap.size := by rw [hw2]; simp
  have xa : Nt.Box w2 w.heap.size x := by rw [hw2]; exact (Nt.Box.new w x _).below ((Below.refl (w.heap.size + 1) _).alloc (by simp) _) (by omega)
  have xb : Nt.Box w2 (w.heap.size + 1) y := by rw [hw2]; have := Nt.Box.new (w.alloc (.cells #[.int .i64 x.o, .int .i64 x.i, .int .i64 x.t.k, .int .i64 x.t.n, .string x.t.t, .slice x.t.A x.t.l.length x.t.c] 33)) y 33; simpa using this
  clear hw2
  have b2 := b0.trans (hb2.mono (by omega))
  have i_x := h_x.below b2
  have i_y := h_y.below b2
  clear hb2 b0
  have xaq := xa
  obtain ⟨xa_0, xa_1, xa_2, xa_3, xa_4, xa_5⟩ := xaq
  have xalt : w.heap.size < w2.heap.size := (by omega)
  have xbq := xb
  obtain ⟨xb_0, xb_1, xb_2, xb_3, xb_4, xb_5⟩ := xbq
  have xblt : w.heap.size + 1 < w2.heap.size := (by omega)
  go_wp2_with fail
  clear xa_0 xa_1 xa_2 xa_3 xa_4 xa_5 xalt
  clear xb_0 xb_1 xb_2 xb_3 xb_4 xb_5 xblt
  refine (eq_all x.t.size x.t y.t w.heap.size _ (by omega) (Nt.E_in i_x).t (Nt.E_in i_y).t (by omega)).mono ?_
  rintro e w3 ⟨rfl, hb3⟩
  have z3 := hb3.size
  have xa := xa.below hb3 (by omega)
  have xb := xb.below hb3 (by omega)
  have b3 := b2.trans (hb3.mono (by omega))
  have i_x := h_x.below b3
  have i_y := h_y.below b3
  clear hb3
  rw [Q_t.out]
  have xaq := xa
  obtain ⟨xa_0, xa_1, xa_2, xa_3, xa_4, xa_5⟩ := xaq
  have xalt : w.heap.size < w3.heap.size := (by omega)
  have xbq := xb
  obtain ⟨xb_0, xb_1, xb_2, xb_3, xb_4, xb_5⟩ := xbq
  have xblt : w.heap.size + 1 < w3.heap.size := (by omega)
  go_wp2_with fail
  clear xa_0 xa_1 xa_2 xa_3 xa_4 xa_5 xalt
  clear xb_0 xb_1 xb_2 xb_3 xb_4 xb_5 xblt
  go_ret
  exact ⟨rfl, b3⟩
end Go.Proofs.YtpigpncbjckbcaaDoor
