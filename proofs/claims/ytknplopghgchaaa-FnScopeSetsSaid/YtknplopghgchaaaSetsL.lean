/-
  The law FnScopeSets, walked.
-/
import Derived.Test.YtknplopghgchaaaSets
namespace Go.Proofs.Ytknplopghgchaaa
open Go.RowKit

set_option maxHeartbeats 400000 in
theorem ints_any (A : Option Addr) (c : Nat) (l : List Int) (A' : Option Addr) (c' : Nat) (l' : List Int) (B : Nat) (w : World) (hin : IIn w B A c l) (hin' : IIn w B A' c' l') (hB : B ≤ w.heap.size) :
    Calls Try.prog 35 #[.slice A l.length c, .slice A' l'.length c'] w fun e w' => e = .returned (.bool (l == l')) ∧ Below w.heap.size w w' := by
  have hcap := hin.cap
  have hcap' := hin'.cap
  by_cases hlen : l.length = l'.length
  · have hn1 : ((l.length : Int) != (l'.length : Int)) = false := by simp [hlen]
    have Hlen := Lib.hid hlen
    have hlen1 : l'.length ≤ l.length := by omega
    have hlen2 : l.length ≤ l'.length := by omega
    clear hlen
    go_enter Try.func35, Try.ntmps35
    go_wp2_with fail
    go_loopw [13] (fun i wr => ∃ j : Nat, j ≤ l.length ∧ i = .int .i64 j ∧ Hid (l.take j = l'.take j) ∧ Below w.heap.size w wr) (fun i _ => l.length - (intOf i).toNat)
    case atStart => exact ⟨0, Nat.zero_le _, rfl, by simp [Hid], Below.refl _ _⟩
    case round =>
      obtain ⟨j, hj, rfl, HE, hb⟩ := hrel
      by_cases hlt : j < l.length
      · have hlt' : j < l'.length := by omega
        obtain ⟨b, o, rfl, hblk, c0⟩ := (hin.below (hb.mono hB)).at_ hlt
        obtain ⟨b', o', rfl, hblk', c0'⟩ := (hin'.below (hb.mono hB)).at_ hlt'
        have g2 : (j : Int) < (l.length : Int) := by omega
        have g3 : (j : Int) < (l'.length : Int) := by omega
        by_cases hq : l[j] = l'[j]
        · have hq1 : (l[j] != l'[j]) = false := by simp [hq]
          have HT : Hid (l.take (j + 1) = l'.take (j + 1)) := by
            show _ = _
            rw [List.take_succ_eq_append_getElem hlt, List.take_succ_eq_append_getElem hlt', HE.out, hq]
          clear hq
          go_wp2_with fail
          go_region
          all_goals go_wp2_with fail
          all_goals refine ⟨⟨j + 1, by omega, by go_num, HT, hb.drew⟩, by simp [intOf]; omega⟩
        · have hq1 : (l[j] != l'[j]) = true := by simpa using hq
          have HF : Hid ((l == l') = false) := by
            show _ = _
            rw [beq_eq_false_iff_ne]
            rintro rfl
            exact hq rfl
          clear hq
          go_wp2_with fail
          go_region
          all_goals go_wp2_with fail
          all_goals go_ret
          all_goals exact ⟨ret_bool HF.out.symm, hb.drew⟩
      · have hj' : j = l.length := by omega
        subst hj'
        have HF : Hid ((l == l') = true) := by
          show _ = _
          have := HE.out
          rw [List.take_length, List.take_of_length_le (by omega)] at this
          simp [this]
        go_wp2_with fail
        go_ret
        exact ⟨ret_bool HF.out.symm, hb⟩
  · have hn1 : ((l.length : Int) != (l'.length : Int)) = true := by simpa using (by omega : ¬ (l.length : Int) = (l'.length : Int))
    have HF : Hid ((l == l') = false) := by
      show _ = _
      rw [beq_eq_false_iff_ne]
      rintro rfl
      exact hlen rfl
    go_enter Try.func35, Try.ntmps35
    go_wp2_with fail
    go_ret
    exact ⟨ret_bool HF.out.symm, Below.refl _ _⟩


set_option maxRecDepth 100000 in
set_option maxHeartbeats 2000000 in
theorem law_sets (A : Option Addr) (c : Nat) (l : List Int) (w : World) (hin : BIn w w.heap.size A c l) : Calls Try.prog 4 #[.slice A l.length c] w fun e w' => e = .returned (.bool true) ∧ Below w.heap.size w w' := by
  have hcap0 := hin.cap
  by_cases s0 : l.length ≤ 1048576
  · have g0 : ¬ ((l.length : Int) > 1048576) := by omega
    go_enter Try.func4, Try.ntmps4
    go_wp2_with fail
    refine (drawWith_any A c l w.heap.size _ (by omega) hin (Nat.le_refl _)).mono ?_
    rintro e w1 ⟨A1, c1, ds, n, rfl, hd, l0, b1⟩
    have z1 := b1.size
    go_wp2_with fail
    refine (specIsSet_any A1 c1 ds w1.heap.size _ l0.inn (Nat.le_refl _)).mono ?_
    rintro e w2 ⟨rfl, hb2⟩
    have z2 := hb2.size
    have b2 := b1.trans (hb2.mono (by omega))
    have l0 := l0.below hb2
    clear hb2
    cases hs : isSetI ds
    · have e1 : withL n ds = ds := by simp [withL, hs]
      have e2 : flipL n ds = ds := by simp [flipL, hs]
      clear hs
      go_wp2_with fail
      refine (implWith_any A1 c1 ds n w2.heap.size _ (by omega) (l0.inn.more (by omega)) (Nat.le_refl _)).mono ?_
      rintro e w3 ⟨A2, c2, rfl, x, hb3⟩
      have z3 := hb3.size
      have b3 := b2.trans (hb3.mono (by omega))
      have l0 := l0.below (hb3.mono (by omega))
      clear hb3
      rw [e1] at x ⊢
      go_wp2_with fail
      refine (ints_any A2 c2 ds A1 c1 ds w3.heap.size _ (x.inn.more (by omega)) (l0.inn.more (by omega)) (Nat.le_refl _)).mono ?_
      rintro e w4 ⟨rfl, hb4⟩
      have z4 := hb4.size
      have b4 := b3.trans (hb4.mono (by omega))
      have l0 := l0.below (hb4.mono (by omega))
      have x := x.below (hb4.mono (by omega))
      clear hb4
      rw [beq_self_eq_true]
      go_wp2_with fail
      refine (implFlip_any A1 c1 ds n w4.heap.size _ (by omega) (l0.inn.more (by omega)) (Nat.le_refl _)).mono ?_
      rintro e w5 ⟨A3, c3, rfl, y, hb5⟩
      have z5 := hb5.size
      have b5 := b4.trans (hb5.mono (by omega))
      have l0 := l0.below (hb5.mono (by omega))
      have x := x.below (hb5.mono (by omega))
      clear hb5
      rw [e2] at y ⊢
      go_wp2_with fail
      refine (ints_any A3 c3 ds A1 c1 ds w5.heap.size _ (y.inn.more (by omega)) (l0.inn.more (by omega)) (Nat.le_refl _)).mono ?_
      rintro e w6 ⟨rfl, hb6⟩
      have z6 := hb6.size
      have b6 := b5.trans (hb6.mono (by omega))
      have l0 := l0.below (hb6.mono (by omega))
      have x := x.below (hb6.mono (by omega))
      have y := y.below (hb6.mono (by omega))
      clear hb6
      rw [beq_self_eq_true]
      go_wp2_with fail
      go_ret
      exact ⟨rfl, b6⟩
    · go_wp2_with fail
      refine (specKind_any n _).mono ?_
      rintro e w3 ⟨rfl, hb3⟩
      have z3 := hb3.size
      have b3 := b2.trans (hb3.mono (by omega))
      have l0 := l0.below (hb3.mono (by omega))
      clear hb3
      by_cases hk : kindI n = 0
      · rw [hk]
        have e1 : withL n ds = ds := by simp [withL, hk]
        have e2 : flipL n ds = ds := by simp [flipL, hk]
        clear hs hk
        go_wp2_with fail
        refine (implWith_any A1 c1 ds n w3.heap.size _ (by omega) (l0.inn.more (by omega)) (Nat.le_refl _)).mono ?_
        rintro e w4 ⟨A2, c2, rfl, x, hb4⟩
        have z4 := hb4.size
        have b4 := b3.trans (hb4.mono (by omega))
        have l0 := l0.below (hb4.mono (by omega))
        clear hb4
        rw [e1] at x ⊢
        go_wp2_with fail
        refine (ints_any A2 c2 ds A1 c1 ds w4.heap.size _ (x.inn.more (by omega)) (l0.inn.more (by omega)) (Nat.le_refl _)).mono ?_
        rintro e w5 ⟨rfl, hb5⟩
        have z5 := hb5.size
        have b5 := b4.trans (hb5.mono (by omega))
        have l0 := l0.below (hb5.mono (by omega))
        have x := x.below (hb5.mono (by omega))
        clear hb5
        rw [beq_self_eq_true]
        go_wp2_with fail
        refine (implFlip_any A1 c1 ds n w5.heap.size _ (by omega) (l0.inn.more (by omega)) (Nat.le_refl _)).mono ?_
        rintro e w6 ⟨A3, c3, rfl, y, hb6⟩
        have z6 := hb6.size
        have b6 := b5.trans (hb6.mono (by omega))
        have l0 := l0.below (hb6.mono (by omega))
        have x := x.below (hb6.mono (by omega))
        clear hb6
        rw [e2] at y ⊢
        go_wp2_with fail
        refine (ints_any A3 c3 ds A1 c1 ds w6.heap.size _ (y.inn.more (by omega)) (l0.inn.more (by omega)) (Nat.le_refl _)).mono ?_
        rintro e w7 ⟨rfl, hb7⟩
        have z7 := hb7.size
        have b7 := b6.trans (hb7.mono (by omega))
        have l0 := l0.below (hb7.mono (by omega))
        have x := x.below (hb7.mono (by omega))
        have y := y.below (hb7.mono (by omega))
        clear hb7
        rw [beq_self_eq_true]
        go_wp2_with fail
        go_ret
        exact ⟨rfl, b7⟩
      · obtain ⟨f1, f2, f3, f4, f5, f6, f7, f8, f9, f10⟩ := sets_facts hs hk
        have hkk : (kindI n == 0) = false := by simpa using hk
        have hpl := putL_length (n : Int) ds
        have F1 := Lib.hid f1
        have F2 := Lib.hid f2
        have F3 := Lib.hid f3
        have F4 := Lib.hid f4
        have F5 := Lib.hid f5
        have F6 := Lib.hid f6
        have F7 := Lib.hid f7
        have F8 := Lib.hid f8
        have F9 := Lib.hid f9
        have F10 := Lib.hid f10
        obtain ⟨xs, hxs⟩ : ∃ xs, xs = putL (n : Int) ds := ⟨_, rfl⟩
        rw [← hxs] at F1 F2 F3 F4 F5 F6 F7 F8 F9 F10 hpl
        obtain ⟨ys, hys⟩ : ∃ ys, ys = cutL (n : Int) xs := ⟨_, rfl⟩
        rw [← hys] at F2 F5 F7 F8 F9 F10
        have hy1 : ys.length + 1 ≤ xs.length := Nat.le_of_eq F10.out.symm
        have hy2 : xs.length ≤ ys.length + 1 := Nat.le_of_eq F10.out
        clear f1 f2 f3 f4 f5 f6 f7 f8 f9 f10 hs hk hxs hys
        go_wp2_with fail
        refine (implWith_any A1 c1 ds n w3.heap.size _ (by omega) (l0.inn.more (by omega)) (Nat.le_refl _)).mono ?_
        rintro e w4 ⟨A2, c2, rfl, x, hb4⟩
        have z4 := hb4.size
        have b4 := b3.trans (hb4.mono (by omega))
        have l0 := l0.below (hb4.mono (by omega))
        clear hb4
        rw [F1.out] at x ⊢
        go_wp2_with fail
        refine (implFlip_any A2 c2 xs n w4.heap.size _ (by omega) (x.inn.more (by omega)) (Nat.le_refl _)).mono ?_
        rintro e w5 ⟨A3, c3, rfl, y, hb5⟩
        have z5 := hb5.size
        have b5 := b4.trans (hb5.mono (by omega))
        have l0 := l0.below (hb5.mono (by omega))
        have x := x.below (hb5.mono (by omega))
        clear hb5
        rw [F2.out] at y ⊢
        go_wp2_with fail
        refine (implIsSetB_any A2 c2 xs w5.heap.size _ (x.inn.more (by omega))).mono ?_
        rintro e w6 ⟨rfl, hb6⟩
        have z6 := hb6.size
        have b6 := b5.trans (hb6.mono (by omega))
        have l0 := l0.below (hb6.mono (by omega))
        have x := x.below (hb6.mono (by omega))
        have y := y.below (hb6.mono (by omega))
        clear hb6
        rw [F3.out]
        go_wp2_with fail
        refine (implHasB_any A2 c2 xs n w6.heap.size _ (x.inn.more (by omega))).mono ?_
        rintro e w7 ⟨rfl, hb7⟩
        have z7 := hb7.size
        have b7 := b6.trans (hb7.mono (by omega))
        have l0 := l0.below (hb7.mono (by omega))
        have x := x.below (hb7.mono (by omega))
        have y := y.below (hb7.mono (by omega))
        clear hb7
        rw [F4.out]
        go_wp2_with fail
        refine (implHasB_any A3 c3 ys n w7.heap.size _ (y.inn.more (by omega))).mono ?_
        rintro e w8 ⟨rfl, hb8⟩
        have z8 := hb8.size
        have b8 := b7.trans (hb8.mono (by omega))
        have l0 := l0.below (hb8.mono (by omega))
        have x := x.below (hb8.mono (by omega))
        have y := y.below (hb8.mono (by omega))
        clear hb8
        rw [F5.out]
        go_wp2_with fail
        refine (implSub_any A1 c1 ds A2 c2 xs w8.heap.size _ (l0.inn.more (by omega)) (x.inn.more (by omega)) (Nat.le_refl _) (by omega)).mono ?_
        rintro e w9 ⟨rfl, hb9⟩
        have z9 := hb9.size
        have b9 := b8.trans (hb9.mono (by omega))
        have l0 := l0.below (hb9.mono (by omega))
        have x := x.below (hb9.mono (by omega))
        have y := y.below (hb9.mono (by omega))
        clear hb9
        rw [F6.out]
        go_wp2_with fail
        refine (implSub_any A3 c3 ys A1 c1 ds w9.heap.size _ (y.inn.more (by omega)) (l0.inn.more (by omega)) (Nat.le_refl _) (by omega)).mono ?_
        rintro e w10 ⟨rfl, hb10⟩
        have z10 := hb10.size
        have b10 := b9.trans (hb10.mono (by omega))
        have l0 := l0.below (hb10.mono (by omega))
        have x := x.below (hb10.mono (by omega))
        have y := y.below (hb10.mono (by omega))
        clear hb10
        rw [F7.out]
        go_wp2_with fail
        refine (implSub_any A3 c3 ys A2 c2 xs w10.heap.size _ (y.inn.more (by omega)) (x.inn.more (by omega)) (Nat.le_refl _) (by omega)).mono ?_
        rintro e w11 ⟨rfl, hb11⟩
        have z11 := hb11.size
        have b11 := b10.trans (hb11.mono (by omega))
        have l0 := l0.below (hb11.mono (by omega))
        have x := x.below (hb11.mono (by omega))
        have y := y.below (hb11.mono (by omega))
        clear hb11
        rw [F8.out]
        go_wp2_with fail
        refine (implSub_any A2 c2 xs A3 c3 ys w11.heap.size _ (x.inn.more (by omega)) (y.inn.more (by omega)) (Nat.le_refl _) (by omega)).mono ?_
        rintro e w12 ⟨rfl, hb12⟩
        have z12 := hb12.size
        have b12 := b11.trans (hb12.mono (by omega))
        have l0 := l0.below (hb12.mono (by omega))
        have x := x.below (hb12.mono (by omega))
        have y := y.below (hb12.mono (by omega))
        clear hb12
        rw [F9.out]
        have hcap := y.inn.cap
        have hfin : ((xs.length : Int) == (ys.length : Int) + 1) = true := by rw [beq_iff_eq]; omega
        go_wp2_with fail
        go_ret
        exact ⟨by first | rfl | (rw [hfin]), b12⟩
  · have g0 : (l.length : Int) > 1048576 := by omega
    go_enter Try.func4, Try.ntmps4
    go_wp2_with fail
    go_ret
    exact ⟨rfl, Below.refl _ _⟩
end Go.Proofs.Ytknplopghgchaaa
