/-
  The law on CoreBindings, walked.
-/
import Derived.Test.YtiopophoioiafaaCoreB
namespace Go.Proofs.Ytiopophoioiafaa
open Go.RowKit

theorem core_bulk : Bd.bulkL coreL ≤ 1000 := by decide
set_option maxHeartbeats 1000000 in
theorem law_core (w : World) : Calls Try.prog 15 #[] w fun e w' => e = .returned (.bool true) ∧ Below w.heap.size w w' := by
  have hcb := core_bulk
  go_enter Try.func15, Try.ntmps15
  go_wp2_with fail
  refine (specCore_any _).mono ?_
  rintro e w1 ⟨A1, c1, v1, rfl, he1, o1, hb1⟩
  have z1 := hb1.size
  have Q1 := Lib.hid he1
  clear he1
  go_wp2_with fail
  refine (implCore_any _).mono ?_
  rintro e w2 ⟨A2, c2, v2, rfl, he2, o2, hb2⟩
  have z2 := hb2.size
  have b2 := hb1.trans (hb2.mono (by omega))
  have i1 := o1.inn.below hb2
  have k2 : Bd.bulkL v2 ≤ 2000000 := by rw [← Bd.bulkL_er, he2]; omega
  have Q2 := Lib.hid he2
  clear hb1 hb2 o1 he2
  go_wp2_with fail
  refine (eqBdL_any A2 c2 v2 A1 c1 v1 w2.heap.size _ (Q2.out.trans Q1.out.symm) o2.inn (i1.more (by omega)) (Nat.le_refl _)).mono ?_
  rintro e w3 ⟨rfl, hb3⟩
  have z3 := hb3.size
  have b3 := b2.trans (hb3.mono (by omega))
  have o2 := o2.below hb3
  have i1 := i1.below (hb3.mono (by omega))
  clear hb3 b2
  go_wp2_with fail
  refine (markBdL_any A2 c2 v2 w1.heap.size w2.heap.size _ 1 k2 (by omega) (by omega) o2 (by omega)).mono ?_
  rintro e w4 ⟨rfl, m2, hc4⟩
  have z4 := hc4.size
  have b4 : Below w.heap.size w w4 := b3.trans (hc4.below (fun k hk => by have := o2.lo_ k hk; omega) (by omega))
  have i1 : Bd.E.LIn w4 w1.heap.size A1 c1 v1 := i1.keepB fun k hk => hc4.block k (by have := i1.blk_lt k hk; omega) (fun hm => by have := i1.blk_lt k hk; have := o2.lo_ k hm; omega)
  clear hc4 b3 o2
  have hw := Bd.wtL_le v2
  have n1 : ¬ (1 + ((Bd.wtL v2 : Nat) : Int) < 0) := by omega
  go_wp2_with fail
  refine (heldBdL_any A2 c2 v2 w2.heap.size _ 1 k2 (by omega) (by omega) m2.inn (by omega)).mono ?_
  rintro e w5 ⟨rfl, hb5⟩
  have z5 := hb5.size
  have b5 := b4.trans (hb5.mono (by omega))
  have m2 := m2.below (hb5.mono (by omega))
  have i1 := i1.below (hb5.mono (by omega))
  clear hb5 b4
  go_wp2_with fail
  refine (implCore_any _).mono ?_
  rintro e w6 ⟨A6, c6, v6, rfl, he6, o6, hb6⟩
  have z6 := hb6.size
  have b6 := b5.trans (hb6.mono (by omega))
  have m2 := m2.below (hb6.mono (by omega))
  have i1 := i1.below (hb6.mono (by omega))
  have Q6 := Lib.hid he6
  clear hb6 b5 he6
  go_wp2_with fail
  refine (eqBdL_any A6 c6 v6 A1 c1 v1 w6.heap.size _ (Q6.out.trans Q1.out.symm) o6.inn (i1.more (by omega)) (Nat.le_refl _)).mono ?_
  rintro e w7 ⟨rfl, hb7⟩
  have z7 := hb7.size
  have b7 := b6.trans (hb7.mono (by omega))
  have m2 := m2.below (hb7.mono (by omega))
  clear hb7 b6
  go_wp2_with fail
  refine (heldBdL_any A2 c2 v2 w2.heap.size _ 1 k2 (by omega) (by omega) m2.inn (by omega)).mono ?_
  rintro e w8 ⟨rfl, hb8⟩
  have b8 := b7.trans (hb8.mono (by omega))
  clear hb8 b7
  go_wp2_with fail
  go_ret
  exact ⟨rfl, b8⟩
end Go.Proofs.Ytiopophoioiafaa
