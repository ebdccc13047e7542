/-
  The law on IsSubset, walked.
-/
import Derived.Test.YtknplopghgchaaaWith
namespace Go.Proofs.Ytknplopghgchaaa
open Go.RowKit

set_option maxRecDepth 100000 in
set_option maxHeartbeats 1000000 in
theorem law_sub (A0 : Option Addr) (c0 : Nat) (a0 : List Int) (A1 : Option Addr) (c1 : Nat) (a1 : List Int) (w : World) (h0 : IIn w w.heap.size A0 c0 a0) (h1 : IIn w w.heap.size A1 c1 a1) : Calls Try.prog 13 #[.slice A0 a0.length c0, .slice A1 a1.length c1] w fun e w' => e = .returned (.bool true) ∧ Below w.heap.size w w' := by
  have cap0 := h0.cap
  have cap1 := h1.cap
  by_cases s0 : a0.length ≤ 1048576
  · have g0 : ¬ ((a0.length : Int) > 1048576) := by omega
    by_cases s1 : a1.length ≤ 1048576
    · have g1 : ¬ ((a1.length : Int) > 1048576) := by omega
      go_enter Try.func13, Try.ntmps13
      have b0 := Below.refl w.heap.size w
      go_wp2_with fail
      refine (toI_any A0 c0 a0 w.heap.size _ (by omega) h0 (by omega)).mono ?_
      rintro e w1 ⟨d0A, d0C, rfl, d0, hb1⟩
      have z1 := hb1.size
      have b1 := b0.trans (hb1.mono (by omega))
      have h0 := h0.below (hb1.mono (by omega))
      have h1 := h1.below (hb1.mono (by omega))
      clear hb1
      go_wp2_with fail
      refine (toI_any A1 c1 a1 w.heap.size _ (by omega) h1 (by omega)).mono ?_
      rintro e w2 ⟨d1A, d1C, rfl, d1, hb2⟩
      have z2 := hb2.size
      have b2 := b1.trans (hb2.mono (by omega))
      have h0 := h0.below (hb2.mono (by omega))
      have h1 := h1.below (hb2.mono (by omega))
      have d0 := d0.below (hb2.mono (by omega))
      clear hb2
      go_wp2_with fail
      refine (specSub_any d0A d0C a0 d1A d1C a1 w2.heap.size _ (d0.inn.more (by omega)) (d1.inn.more (by omega)) (Nat.le_refl _)).mono ?_
      rintro e w3 ⟨rfl, hb3⟩
      have z3 := hb3.size
      have b3 := b2.trans (hb3.mono (by omega))
      have h0 := h0.below (hb3.mono (by omega))
      have h1 := h1.below (hb3.mono (by omega))
      have d0 := d0.below (hb3.mono (by omega))
      have d1 := d1.below (hb3.mono (by omega))
      clear hb3
      go_wp2_with fail
      refine (toI_any A0 c0 a0 w.heap.size _ (by omega) h0 (by omega)).mono ?_
      rintro e w4 ⟨x0A, x0C, rfl, x0, hb4⟩
      have z4 := hb4.size
      have b4 := b3.trans (hb4.mono (by omega))
      have h0 := h0.below (hb4.mono (by omega))
      have h1 := h1.below (hb4.mono (by omega))
      clear hb4
      go_wp2_with fail
      refine (toI_any A1 c1 a1 w.heap.size _ (by omega) h1 (by omega)).mono ?_
      rintro e w5 ⟨x1A, x1C, rfl, x1, hb5⟩
      have z5 := hb5.size
      have b5 := b4.trans (hb5.mono (by omega))
      have h0 := h0.below (hb5.mono (by omega))
      have h1 := h1.below (hb5.mono (by omega))
      have x0 := x0.below (hb5.mono (by omega))
      clear hb5
      go_wp2_with fail
      refine (implSub_any x0A x0C a0 x1A x1C a1 w5.heap.size _ (x0.inn.more (by omega)) (x1.inn.more (by omega)) (Nat.le_refl _) (by omega)).mono ?_
      rintro e w6 ⟨rfl, hb6⟩
      have z6 := hb6.size
      have b6 := b5.trans (hb6.mono (by omega))
      have h0 := h0.below (hb6.mono (by omega))
      have h1 := h1.below (hb6.mono (by omega))
      have x0 := x0.below (hb6.mono (by omega))
      have x1 := x1.below (hb6.mono (by omega))
      clear hb6
      go_wp2_with fail
      refine (toI_any A0 c0 a0 w.heap.size _ (by omega) h0 (by omega)).mono ?_
      rintro e w7 ⟨y0A, y0C, rfl, y0, hb7⟩
      have z7 := hb7.size
      have b7 := b6.trans (hb7.mono (by omega))
      have h0 := h0.below (hb7.mono (by omega))
      have h1 := h1.below (hb7.mono (by omega))
      have x0 := x0.below (hb7.mono (by omega))
      have x1 := x1.below (hb7.mono (by omega))
      clear hb7
      go_wp2_with fail
      refine (eqI_any x0A x0C a0 y0A y0C a0 w7.heap.size _ (x0.inn.more (by omega)) (y0.inn.more (by omega)) (Nat.le_refl _)).mono ?_
      rintro e w8 ⟨rfl, hb8⟩
      have z8 := hb8.size
      have b8 := b7.trans (hb8.mono (by omega))
      have h0 := h0.below (hb8.mono (by omega))
      have h1 := h1.below (hb8.mono (by omega))
      have x0 := x0.below (hb8.mono (by omega))
      have x1 := x1.below (hb8.mono (by omega))
      have y0 := y0.below (hb8.mono (by omega))
      clear hb8
      rw [beq_self_eq_true]
      go_wp2_with fail
      refine (toI_any A1 c1 a1 w.heap.size _ (by omega) h1 (by omega)).mono ?_
      rintro e w9 ⟨y1A, y1C, rfl, y1, hb9⟩
      have z9 := hb9.size
      have b9 := b8.trans (hb9.mono (by omega))
      have h0 := h0.below (hb9.mono (by omega))
      have h1 := h1.below (hb9.mono (by omega))
      have x0 := x0.below (hb9.mono (by omega))
      have x1 := x1.below (hb9.mono (by omega))
      have y0 := y0.below (hb9.mono (by omega))
      clear hb9
      go_wp2_with fail
      refine (eqI_any x1A x1C a1 y1A y1C a1 w9.heap.size _ (x1.inn.more (by omega)) (y1.inn.more (by omega)) (Nat.le_refl _)).mono ?_
      rintro e w10 ⟨rfl, hb10⟩
      have z10 := hb10.size
      have b10 := b9.trans (hb10.mono (by omega))
      have h0 := h0.below (hb10.mono (by omega))
      have h1 := h1.below (hb10.mono (by omega))
      have x0 := x0.below (hb10.mono (by omega))
      have x1 := x1.below (hb10.mono (by omega))
      have y0 := y0.below (hb10.mono (by omega))
      have y1 := y1.below (hb10.mono (by omega))
      clear hb10
      rw [beq_self_eq_true]
      go_wp2_with fail
      go_ret
      exact ⟨rfl, b10⟩
    · have g1 : (a1.length : Int) > 1048576 := by omega
      go_enter Try.func13, Try.ntmps13
      go_wp2_with fail
      go_ret
      exact ⟨rfl, Below.refl _ _⟩
  · have g0 : (a0.length : Int) > 1048576 := by omega
    go_enter Try.func13, Try.ntmps13
    go_wp2_with fail
    go_ret
    exact ⟨rfl, Below.refl _ _⟩
end Go.Proofs.Ytknplopghgchaaa
