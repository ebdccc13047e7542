/-
  The law on IsScopeSet, walked.
-/
import Derived.Test.YtknplopghgchaaaSet
namespace Go.Proofs.Ytknplopghgchaaa
open Go.RowKit

set_option maxRecDepth 100000 in
set_option maxHeartbeats 1000000 in
theorem law_isset (A0 : Option Addr) (c0 : Nat) (a0 : List Int) (w : World) (h0 : IIn w w.heap.size A0 c0 a0) : Calls Try.prog 8 #[.slice A0 a0.length c0] w fun e w' => e = .returned (.bool true) ∧ Below w.heap.size w w' := by
  have cap0 := h0.cap
  by_cases s0 : a0.length ≤ 1048576
  · have g0 : ¬ ((a0.length : Int) > 1048576) := by omega
    go_enter Try.func8, Try.ntmps8
    have b0 := Below.refl w.heap.size w
    go_wp2_with fail
    refine (toI_any A0 c0 a0 w.heap.size _ (by omega) h0 (by omega)).mono ?_
    rintro e w1 ⟨d0A, d0C, rfl, d0, hb1⟩
    have z1 := hb1.size
    have b1 := b0.trans (hb1.mono (by omega))
    have h0 := h0.below (hb1.mono (by omega))
    clear hb1
    go_wp2_with fail
    refine (specIsSet_any d0A d0C a0 w1.heap.size _ (d0.inn.more (by omega)) (Nat.le_refl _)).mono ?_
    rintro e w2 ⟨rfl, hb2⟩
    have z2 := hb2.size
    have b2 := b1.trans (hb2.mono (by omega))
    have h0 := h0.below (hb2.mono (by omega))
    have d0 := d0.below (hb2.mono (by omega))
    clear hb2
    go_wp2_with fail
    refine (toI_any A0 c0 a0 w.heap.size _ (by omega) h0 (by omega)).mono ?_
    rintro e w3 ⟨x0A, x0C, rfl, x0, hb3⟩
    have z3 := hb3.size
    have b3 := b2.trans (hb3.mono (by omega))
    have h0 := h0.below (hb3.mono (by omega))
    clear hb3
    go_wp2_with fail
    refine (implIsSetB_any x0A x0C a0 w3.heap.size _ (x0.inn.more (by omega))).mono ?_
    rintro e w4 ⟨rfl, hb4⟩
    have z4 := hb4.size
    have b4 := b3.trans (hb4.mono (by omega))
    have h0 := h0.below (hb4.mono (by omega))
    have x0 := x0.below (hb4.mono (by omega))
    clear hb4
    go_wp2_with fail
    refine (toI_any A0 c0 a0 w.heap.size _ (by omega) h0 (by omega)).mono ?_
    rintro e w5 ⟨y0A, y0C, rfl, y0, hb5⟩
    have z5 := hb5.size
    have b5 := b4.trans (hb5.mono (by omega))
    have h0 := h0.below (hb5.mono (by omega))
    have x0 := x0.below (hb5.mono (by omega))
    clear hb5
    go_wp2_with fail
    refine (eqI_any x0A x0C a0 y0A y0C a0 w5.heap.size _ (x0.inn.more (by omega)) (y0.inn.more (by omega)) (Nat.le_refl _)).mono ?_
    rintro e w6 ⟨rfl, hb6⟩
    have z6 := hb6.size
    have b6 := b5.trans (hb6.mono (by omega))
    have h0 := h0.below (hb6.mono (by omega))
    have x0 := x0.below (hb6.mono (by omega))
    have y0 := y0.below (hb6.mono (by omega))
    clear hb6
    rw [beq_self_eq_true]
    go_wp2_with fail
    go_ret
    exact ⟨rfl, b6⟩
  · have g0 : (a0.length : Int) > 1048576 := by omega
    go_enter Try.func8, Try.ntmps8
    go_wp2_with fail
    go_ret
    exact ⟨rfl, Below.refl _ _⟩
end Go.Proofs.Ytknplopghgchaaa
