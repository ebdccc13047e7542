/-
  The law on AreData, walked.
-/
import Derived.Test.YtkmimpfpmkpdoaaAre
namespace Go.Proofs.Ytkmimpfpmkpdoaa
open Go.RowKit

set_option maxRecDepth 100000 in
set_option maxHeartbeats 1000000 in
theorem law_are (A : Option Addr) (c : Nat) (l : List D) (w : World) (ha : (D.mk 0 0 ⟨#[]⟩ A c l).In w w.heap.size) : Calls Try.prog 14 #[.slice A l.length c] w fun e w' => e = .returned (.bool true) ∧ Below w.heap.size w w' := by
  by_cases hsz : (D.bulkL l : Int) ≤ 1048576
  · have hs : D.sizeL l ≤ 2000000 := by have := D.bulkL_size l; omega
    go_enter Try.func14, Try.ntmps14
    go_wp2_with fail
    refine (szL_any 2000000 0 0 ⟨#[]⟩ A c l w.heap.size _ 1048576 hs (by omega) (by omega) ha (Nat.le_refl _)).mono ?_
    rintro e w1 ⟨rfl, b1⟩
    rw [szR_yes (by omega)]
    have n1 : ¬ (1048576 - (D.bulkL l : Int) < 0) := by omega
    have z1 := b1.size
    have i1 := ha.below b1
    go_wp2_with fail
    refine (toL_any 2000000 0 0 ⟨#[]⟩ A c l w.heap.size _ hs (by omega) i1 (by omega)).mono ?_
    rintro e w2 ⟨k1, n1, t1, A1, c1, l1, rfl, he1, ho1, hb2⟩
    have Q1 := Lib.hid he1
    have s1 : D.sizeL l1 ≤ 2000000 := by rw [D.sizeL_of_er he1]; exact hs
    have z2 := hb2.size
    have b2 := b1.trans (hb2.mono (by omega))
    have i2 := ha.below b2
    clear hb2 he1 b1 i1
    go_wp2_with fail
    refine (specAre_any k1 n1 t1 A1 c1 l1 w2.heap.size _ ho1.inn (Nat.le_refl _) s1).mono ?_
    rintro e w3 ⟨rfl, hb3⟩
    have z3 := hb3.size
    have b3 := b2.trans (hb3.mono (by omega))
    have i3 := ha.below b3
    clear hb3 b2 i2
    rw [D.areD_of_er Q1.out]
    go_wp2_with fail
    refine (toL_any 2000000 0 0 ⟨#[]⟩ A c l w.heap.size _ hs (by omega) i3 (by omega)).mono ?_
    rintro e w4 ⟨k2, n2, t2, A2, c2, l2, rfl, he2, ho2, hb4⟩
    have Q2 := Lib.hid he2
    have s2 : D.sizeL l2 ≤ 2000000 := by rw [D.sizeL_of_er he2]; exact hs
    have z4 := hb4.size
    have b4 := b3.trans (hb4.mono (by omega))
    clear hb4 he2 b3 i3
    go_wp2_with fail
    refine (implAre_any k2 n2 t2 A2 c2 l2 w4.heap.size _ ho2.inn (Nat.le_refl _)).mono ?_
    rintro e w5 ⟨rfl, hb5⟩
    rw [D.areD_of_er Q2.out]
    have hxx : (D.areD l != D.areD l) = false := by simp
    have z5 := hb5.size
    have b5 := b4.trans (hb5.mono (by omega))
    have i5 := ha.below b5
    have j5 := ho2.inn.below hb5
    clear hb5 b4
    go_wp2_with fail
    refine (toL_any 2000000 0 0 ⟨#[]⟩ A c l w.heap.size _ hs (by omega) i5 (by omega)).mono ?_
    rintro e w6 ⟨k3, n3, t3, A3, c3, l3, rfl, he3, ho3, hb6⟩
    have Q3 := Lib.hid he3
    have z6 := hb6.size
    have b6 := b5.trans (hb6.mono (by omega))
    have j6 := j5.below (hb6.mono (by omega))
    have E : D.eqL l2 l3 = true := by
      have h := D.eqB_of_er (d := .mk 0 0 ⟨#[]⟩ none 0 l2) (e := .mk 0 0 ⟨#[]⟩ none 0 l3) (by simp only [D.er]; rw [Q2.out, he3])
      simpa [D.eqB] using h
    clear hb6 he3 b5 i5 j5
    go_wp2_with fail
    refine (eqL_all 2000000 k2 n2 t2 A2 c2 l2 k3 n3 t3 A3 c3 l3 w6.heap.size _ s2 (j6.more (by omega)) ho3.inn (Nat.le_refl _)).mono ?_
    rintro e w7 ⟨rfl, hb7⟩
    rw [E]
    have b7 := b6.trans (hb7.mono (by omega))
    clear hb7 E b6
    go_wp2_with fail
    go_ret
    exact ⟨rfl, b7⟩
  · go_enter Try.func14, Try.ntmps14
    go_wp2_with fail
    refine (szL_any (D.sizeL l) 0 0 ⟨#[]⟩ A c l w.heap.size _ 1048576 (Nat.le_refl _) (by omega) (by omega) ha (Nat.le_refl _)).mono ?_
    rintro e w1 ⟨rfl, b1⟩
    rw [szR_no (by omega)]
    go_wp2_with fail
    go_ret
    exact ⟨rfl, b1⟩
end Go.Proofs.Ytkmimpfpmkpdoaa
