/-
  The law on WithoutUses, walked.
-/
import Derived.Test.YtknplopghgchaaaDrop
namespace Go.Proofs.Ytknplopghgchaaa
open Go.RowKit

set_option maxRecDepth 100000 in
set_option maxHeartbeats 1000000 in
theorem law_drop (A0 : Option Addr) (c0 : Nat) (a0 : List Int) (w : World) (h0 : IIn w w.heap.size A0 c0 a0) : Calls Try.prog 12 #[.slice A0 a0.length c0] w fun e w' => e = .returned (.bool true) ∧ Below w.heap.size w w' := by
  have cap0 := h0.cap
  by_cases s0 : a0.length ≤ 1048576
  · have g0 : ¬ ((a0.length : Int) > 1048576) := by omega
    go_enter Try.func12, Try.ntmps12
    have b0 := Below.refl w.heap.size w
    have al : (dropL a0).length ≤ 2000000 := by have := dropL_length a0; omega
    go_wp2_with fail
    refine (toI_any A0 c0 a0 w.heap.size _ (by omega) h0 (by omega)).mono ?_
    rintro e w1 ⟨dA, dC, rfl, d, hb1⟩
    have z1 := hb1.size
    have b1 := b0.trans (hb1.mono (by omega))
    have h0 := h0.below (hb1.mono (by omega))
    clear hb1
    go_wp2_with fail
    refine (specDrop_any dA dC a0 w1.heap.size _ (by omega) (d.inn.more (by omega)) (Nat.le_refl _)).mono ?_
    rintro e w2 ⟨vA, vC, rfl, v, hb2⟩
    have z2 := hb2.size
    have b2 := b1.trans (hb2.mono (by omega))
    have h0 := h0.below (hb2.mono (by omega))
    have d := d.below (hb2.mono (by omega))
    clear hb2
    go_wp2_with fail
    refine (toI_any A0 c0 a0 w.heap.size _ (by omega) h0 (by omega)).mono ?_
    rintro e w3 ⟨xA, xC, rfl, x, hb3⟩
    have z3 := hb3.size
    have b3 := b2.trans (hb3.mono (by omega))
    have h0 := h0.below (hb3.mono (by omega))
    have v := v.below (hb3.mono (by omega))
    clear hb3
    go_wp2_with fail
    refine (implDrop_any xA xC a0 w3.heap.size _ (by omega) (x.inn.more (by omega)) (Nat.le_refl _)).mono ?_
    rintro e w4 ⟨gA, gC, rfl, g, hb4⟩
    have z4 := hb4.size
    have b4 := b3.trans (hb4.mono (by omega))
    have h0 := h0.below (hb4.mono (by omega))
    have v := v.below (hb4.mono (by omega))
    have x := x.below (hb4.mono (by omega))
    clear hb4
    go_wp2_with fail
    refine (eqI_any gA gC _ vA vC _ w4.heap.size _ (g.inn.more (by omega)) (v.inn.more (by omega)) (Nat.le_refl _)).mono ?_
    rintro e w5 ⟨rfl, hb5⟩
    have z5 := hb5.size
    have b5 := b4.trans (hb5.mono (by omega))
    have h0 := h0.below (hb5.mono (by omega))
    have v := v.below (hb5.mono (by omega))
    have x := x.below (hb5.mono (by omega))
    have g := g.below (hb5.mono (by omega))
    clear hb5
    rw [beq_self_eq_true]
    go_wp2_with fail
    refine (toI_any A0 c0 a0 w.heap.size _ (by omega) h0 (by omega)).mono ?_
    rintro e w6 ⟨yA, yC, rfl, y, hb6⟩
    have z6 := hb6.size
    have b6 := b5.trans (hb6.mono (by omega))
    have h0 := h0.below (hb6.mono (by omega))
    have v := v.below (hb6.mono (by omega))
    have x := x.below (hb6.mono (by omega))
    have g := g.below (hb6.mono (by omega))
    clear hb6
    go_wp2_with fail
    refine (eqI_any xA xC a0 yA yC a0 w6.heap.size _ (x.inn.more (by omega)) (y.inn.more (by omega)) (Nat.le_refl _)).mono ?_
    rintro e w7 ⟨rfl, hb7⟩
    have z7 := hb7.size
    have b7 := b6.trans (hb7.mono (by omega))
    have h0 := h0.below (hb7.mono (by omega))
    have v := v.below (hb7.mono (by omega))
    have x := x.below (hb7.mono (by omega))
    have g := g.below (hb7.mono (by omega))
    have y := y.below (hb7.mono (by omega))
    clear hb7
    rw [beq_self_eq_true]
    go_wp2_with fail
    refine (markI_any xA xC _ _ _ _ 1 (by omega) (by omega) (by omega) x).mono ?_
    rintro e w8 ⟨rfl, xm, hc8⟩
    have z8 := hc8.size
    have hb8 : Below w2.heap.size w7 w8 := hc8.below (fun k hk => x.lo_ k hk) (by omega)
    have b8 := b7.trans (hb8.mono (by omega))
    have g := g.chg hc8 (by omega) (fun k h1 h2 => by have := g.lo_ k h1; have := x.inn.blk_lt k h2; omega)
    have v := v.below (hb8.mono (by omega))
    have h0 := h0.below (hb8.mono (by omega))
    clear hb8 hc8 x xm
    have p1 : ¬ (1 + (a0.length : Int) < 0) := by omega
    go_wp2_with fail
    refine (eqI_any gA gC _ vA vC _ w8.heap.size _ (g.inn.more (by omega)) (v.inn.more (by omega)) (Nat.le_refl _)).mono ?_
    rintro e w9 ⟨rfl, hb9⟩
    have z9 := hb9.size
    have b9 := b8.trans (hb9.mono (by omega))
    have h0 := h0.below (hb9.mono (by omega))
    have v := v.below (hb9.mono (by omega))
    have g := g.below (hb9.mono (by omega))
    clear hb9
    rw [beq_self_eq_true]
    go_wp2_with fail
    refine (markI_any gA gC _ _ _ _ 1 (by omega) (by omega) (by omega) g).mono ?_
    rintro e w10 ⟨rfl, gm, hc10⟩
    have z10 := hc10.size
    have hb10 : Below w3.heap.size w9 w10 := hc10.below (fun k hk => g.lo_ k hk) (by omega)
    have b10 := b9.trans (hb10.mono (by omega))
    have v := v.below (hb10.mono (by omega))
    have h0 := h0.below (hb10.mono (by omega))
    have g := gm
    clear hb10 hc10 gm
    go_wp2_with fail
    refine (heldI_any gA gC _ _ _ 1 (by omega) (by omega) (by omega) g.inn).mono ?_
    rintro e w11 ⟨rfl, hw⟩
    obtain rfl := hw.symm
    have p2 : ¬ (1 + ((dropL a0).length : Int) < 0) := by omega
    go_wp2_with fail
    refine (toI_any A0 c0 a0 w.heap.size _ (by omega) h0 (by omega)).mono ?_
    rintro e w11 ⟨yA, yC, rfl, y, hb11⟩
    have z11 := hb11.size
    have b11 := b10.trans (hb11.mono (by omega))
    have h0 := h0.below (hb11.mono (by omega))
    have v := v.below (hb11.mono (by omega))
    have g := g.below (hb11.mono (by omega))
    clear hb11
    go_wp2_with fail
    refine (implDrop_any yA yC a0 w11.heap.size _ (by omega) (y.inn.more (by omega)) (Nat.le_refl _)).mono ?_
    rintro e w12 ⟨uA, uC, rfl, u, hb12⟩
    have z12 := hb12.size
    have b12 := b11.trans (hb12.mono (by omega))
    have h0 := h0.below (hb12.mono (by omega))
    have v := v.below (hb12.mono (by omega))
    have g := g.below (hb12.mono (by omega))
    have y := y.below (hb12.mono (by omega))
    clear hb12
    go_wp2_with fail
    refine (eqI_any uA uC _ vA vC _ w12.heap.size _ (u.inn.more (by omega)) (v.inn.more (by omega)) (Nat.le_refl _)).mono ?_
    rintro e w13 ⟨rfl, hb13⟩
    have z13 := hb13.size
    have b13 := b12.trans (hb13.mono (by omega))
    have h0 := h0.below (hb13.mono (by omega))
    have v := v.below (hb13.mono (by omega))
    have g := g.below (hb13.mono (by omega))
    have y := y.below (hb13.mono (by omega))
    have u := u.below (hb13.mono (by omega))
    clear hb13
    rw [beq_self_eq_true]
    go_wp2_with fail
    refine (heldI_any gA gC _ _ _ 1 (by omega) (by omega) (by omega) g.inn).mono ?_
    rintro e w14 ⟨rfl, hw⟩
    obtain rfl := hw.symm
    have p2 : ¬ (1 + ((dropL a0).length : Int) < 0) := by omega
    go_wp2_with fail
    go_ret
    exact ⟨rfl, b13⟩
  · have g0 : (a0.length : Int) > 1048576 := by omega
    go_enter Try.func12, Try.ntmps12
    go_wp2_with fail
    go_ret
    exact ⟨rfl, Below.refl _ _⟩
end Go.Proofs.Ytknplopghgchaaa
