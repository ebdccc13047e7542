/-
  Value: the laws' own comparison of what reads the same (written by gen/rec.py).
-/
import Derived.Test.YtnldlbglgalbaabVuT
import Derived.Deep.RegionHeld3
namespace Go.Proofs.Ytnldlbglgalbaab
open Go.RowKit

set_option maxRecDepth 100000 in
set_option maxHeartbeats 4000000 in
theorem Vu_eq_any (x y : Vu) (B : Nat) (w : World) (he : Vu.er x = Vu.er y) (hx : Vu.E.In w B x) (hy : Vu.E.In w B y) (hB : B ≤ w.heap.size) :
    Calls Try.prog 10 #[Vu.val x, Vu.val y] w fun e w' => e = .returned (.bool true) ∧ Below w.heap.size w w' := by
  have h_x := Elem.In.more hx hB
  have h_y := Elem.In.more hy hB
  obtain ⟨e_k, e_n, e_t⟩ := Vu.er_parts he
  clear he
  have n_k : (x.k != y.k) = false := by rw [e_k]; simp
  clear e_k
  have n_n : (x.n != y.n) = false := by rw [e_n]; simp
  clear e_n
  have n_t : (x.t.toList == y.t.toList) = true := by rw [e_t]; simp
  clear e_t
  unfold Vu.val
  have b0 : Below w.heap.size w w := Below.refl _ _
  have i_x := h_x
  have i_y := h_y
  go_enter Try.func10, Try.ntmps10
  go_wp2_with fail
  obtain ⟨w2, hw2⟩ : ∃ W, W = (w.alloc (.cells #[.int .i64 x.k, .int .i64 x.n, .string x.t] 27)).alloc (.cells #[.int .i64 y.k, .int .i64 y.n, .string y.t] 27) := ⟨_, rfl⟩
  rw [← hw2]
  have hb2 : Below w.heap.size w w2 := by rw [hw2]; exact ((Below.refl _ _).alloc (Nat.le_refl _) _).alloc (by simp) _
  have z2 : w.heap.size + 2 ≤ w2.heap.size := by rw [hw2]; simp
  have xa : Vu.Box w2 w.heap.size x := by rw [hw2]; exact (Vu.Box.new w x _).below ((Below.refl (w.heap.size + 1) _).alloc (by simp) _) (by omega)
  have xb : Vu.Box w2 (w.heap.size + 1) y := by rw [hw2]; have := Vu.Box.new (w.alloc (.cells #[.int .i64 x.k, .int .i64 x.n, .string x.t] 27)) y 27; simpa using this
  clear hw2
  have b2 := b0.trans (hb2.mono (by omega))
  have i_x := h_x.below b2
  have i_y := h_y.below b2
  clear hb2 b0
  have xaq := xa
  obtain ⟨xa_0, xa_1, xa_2⟩ := xaq
  have xalt : w.heap.size < w2.heap.size := (by omega)
  have xbq := xb
  obtain ⟨xb_0, xb_1, xb_2⟩ := xbq
  have xblt : w.heap.size + 1 < w2.heap.size := (by omega)
  go_wp2_with fail
  clear xa_0 xa_1 xa_2 xalt
  clear xb_0 xb_1 xb_2 xblt
  go_ret
  exact ⟨rfl, b2⟩
end Go.Proofs.Ytnldlbglgalbaab
