/-
  Whether an instruction is valid (written by gen/ntv.py).
-/
import Derived.Test.YtpigpncbjckbcaaRNt
import Derived.Test.YtpigpncbjckbcaaOpA
import Derived.Test.YtpigpncbjckbcaaIsD
import Derived.Test.YtpigpncbjckbcaaEqd
import Derived.Test.YtpigpncbjckbcaaNear
import Derived.Test.YtpigpncbjckbcaaWords
import Derived.Test.YtpigpncbjckbcaaLeaf
import Derived.Deep.DeepCutAuto
namespace Go.Proofs.Ytpigpncbjckbcaa
open Go.RowKit

theorem zeroD_in_ (w : World) (B : Nat) : zeroD.In w B := by
  unfold zeroD
  exact ⟨⟨by decide, by decide, by decide⟩, fun h => absurd rfl h, trivial⟩
theorem opNm_nil (op : Int) : ((opNm op).toList == []) = !decide (1 ≤ op ∧ op ≤ 20) := by
  refine op_cases (C := fun op => ((opNm op).toList == []) = !decide (1 ≤ op ∧ op ≤ 20)) op (fun h => ?_) (fun h => ?_) ?_ ?_ ?_ ?_ ?_ ?_ ?_ ?_ ?_ ?_ ?_ ?_ ?_ ?_ ?_ ?_ ?_ ?_ ?_ ?_ ?_
  · rw [opNm_lo h, decide_eq_false (by omega)]; decide +kernel
  · rw [opNm_hi h, decide_eq_false (by omega)]; decide +kernel
  · rw [opNm_0]; decide +kernel
  · rw [opNm_1]; decide +kernel
  · rw [opNm_2]; decide +kernel
  · rw [opNm_3]; decide +kernel
  · rw [opNm_4]; decide +kernel
  · rw [opNm_5]; decide +kernel
  · rw [opNm_6]; decide +kernel
  · rw [opNm_7]; decide +kernel
  · rw [opNm_8]; decide +kernel
  · rw [opNm_9]; decide +kernel
  · rw [opNm_10]; decide +kernel
  · rw [opNm_11]; decide +kernel
  · rw [opNm_12]; decide +kernel
  · rw [opNm_13]; decide +kernel
  · rw [opNm_14]; decide +kernel
  · rw [opNm_15]; decide +kernel
  · rw [opNm_16]; decide +kernel
  · rw [opNm_17]; decide +kernel
  · rw [opNm_18]; decide +kernel
  · rw [opNm_19]; decide +kernel
  · rw [opNm_20]; decide +kernel
namespace Nt
def bare (x : Nt) : Bool := (x.o == 14) || (x.o == 17)
def top (x : Nt) : Int := if x.bare then 0 else 4000
def ok (x : Nt) : Bool := decide (1 ≤ x.o ∧ x.o ≤ 20) && (if x.o = 1 then (x.i == 0) && x.t.isD else (decide (0 ≤ x.i) && decide (x.i ≤ x.top)) && D.eqB x.t zeroD)
theorem ok_no {x : Nt} (h : ¬ (1 ≤ x.o ∧ x.o ≤ 20)) : x.ok = false := by unfold ok; rw [decide_eq_false h]; rfl
theorem ok_one {x : Nt} (h : x.o = 1) : x.ok = ((x.i == 0) && x.t.isD) := by unfold ok; rw [decide_eq_true (by omega), if_pos h]; rfl
theorem ok_else {x : Nt} (h : 1 ≤ x.o ∧ x.o ≤ 20) (h1 : x.o ≠ 1) : x.ok = ((decide (0 ≤ x.i) && decide (x.i ≤ x.top)) && D.eqB x.t zeroD) := by unfold ok; rw [decide_eq_true h, if_neg h1]; rfl
end Nt

set_option maxRecDepth 100000 in
set_option maxHeartbeats 2000000 in
theorem isBare_any (x : Nt) (w : World) : Calls Try.prog 91 #[Nt.val x] w fun e w' => e = .returned (.bool x.bare) ∧ Below w.heap.size w w' := by
  obtain ⟨W1, hW1⟩ : ∃ W1, W1 = w.alloc (.cells #[.int .i64 x.o, .int .i64 x.i, .int .i64 x.t.k, .int .i64 x.t.n, .string x.t.t, .slice x.t.A x.t.l.length x.t.c] 53) := ⟨_, rfl⟩
  have b1 : Below w.heap.size w W1 := by rw [hW1]; exact (Below.refl _ _).alloc (Nat.le_refl _) _
  have z1 : w.heap.size < W1.heap.size := by rw [hW1]; simp
  have xb : Nt.Box W1 w.heap.size x := by rw [hW1]; exact Nt.Box.new _ _ _
  unfold Nt.val
  obtain ⟨a0, a1, a2, a3, a4, a5⟩ := xb
  have K : Hid (x.bare = ((x.o == 14) || (x.o == 17))) := rfl
  cases q0 : (x.o == 14)
  · cases q1 : (x.o == 17)
    · skip
      have HQ : Hid (x.bare = false) := by show _ = _; rw [K.out, q0, q1]; rfl
      go_enter Try.func91, Try.ntmps91
      go_upto_region 1 with fail
      rw [← hW1]
      clear hW1
      go_wp2_with fail
      go_ret
      exact ⟨ret_bool HQ.out.symm, b1⟩
    · skip
      have HQ : Hid (x.bare = true) := by show _ = _; rw [K.out, q0, q1]; rfl
      go_enter Try.func91, Try.ntmps91
      go_upto_region 1 with fail
      rw [← hW1]
      clear hW1
      go_wp2_with fail
      go_ret
      exact ⟨ret_bool HQ.out.symm, b1⟩
  · skip
    have HQ : Hid (x.bare = true) := by show _ = _; rw [K.out, q0]; rfl
    go_enter Try.func91, Try.ntmps91
    go_upto_region 1 with fail
    rw [← hW1]
    clear hW1
    go_wp2_with fail
    go_ret
    exact ⟨ret_bool HQ.out.symm, b1⟩

set_option maxRecDepth 100000 in
set_option maxHeartbeats 2000000 in
theorem greatestA_any (x : Nt) (w : World) : Calls Try.prog 83 #[Nt.val x] w fun e w' => e = .returned (.int .i64 x.top) ∧ Below w.heap.size w w' := by
  obtain ⟨W1, hW1⟩ : ∃ W1, W1 = w.alloc (.cells #[.int .i64 x.o, .int .i64 x.i, .int .i64 x.t.k, .int .i64 x.t.n, .string x.t.t, .slice x.t.A x.t.l.length x.t.c] 53) := ⟨_, rfl⟩
  have b1 : Below w.heap.size w W1 := by rw [hW1]; exact (Below.refl _ _).alloc (Nat.le_refl _) _
  have z1 : w.heap.size < W1.heap.size := by rw [hW1]; simp
  have xb : Nt.Box W1 w.heap.size x := by rw [hW1]; exact Nt.Box.new _ _ _
  have HB : Hid (Calls Try.prog 91 #[.agg #[.int .i64 x.o, .int .i64 x.i, .int .i64 x.t.k, .int .i64 x.t.n, .string x.t.t, .slice x.t.A x.t.l.length x.t.c]] W1 fun e w' => e = .returned (.bool x.bare) ∧ Below W1.heap.size W1 w') := isBare_any x W1
  unfold Nt.val
  obtain ⟨a0, a1, a2, a3, a4, a5⟩ := xb
  have K : Hid (x.top = if x.bare then 0 else 4000) := rfl
  cases q0 : x.bare
  · rw [q0] at HB K
    go_enter Try.func83, Try.ntmps83
    go_upto_region 1 with fail
    rw [← hW1]
    clear hW1
    go_wp2_with fail
    (with_reducible refine HB.out.mono ?_)
    rintro e w2 ⟨rfl, hb2⟩
    go_wp2_with fail
    go_ret
    exact ⟨ret_int K.out.symm, b1.trans (hb2.mono (by omega))⟩
  · rw [q0] at HB K
    go_enter Try.func83, Try.ntmps83
    go_upto_region 1 with fail
    rw [← hW1]
    clear hW1
    go_wp2_with fail
    (with_reducible refine HB.out.mono ?_)
    rintro e w2 ⟨rfl, hb2⟩
    go_wp2_with fail
    go_ret
    exact ⟨ret_int K.out.symm, b1.trans (hb2.mono (by omega))⟩

set_option maxRecDepth 100000 in
set_option maxHeartbeats 2000000 in
theorem isValid_any (x : Nt) (B : Nat) (w : World) (hin : Nt.E.In w B x) (hB : B ≤ w.heap.size) : Calls Try.prog 68 #[Nt.val x] w fun e w' => e = .returned (.bool x.ok) ∧ Below w.heap.size w w' := by
  obtain ⟨W1, hW1⟩ : ∃ W1, W1 = w.alloc (.cells #[.int .i64 x.o, .int .i64 x.i, .int .i64 x.t.k, .int .i64 x.t.n, .string x.t.t, .slice x.t.A x.t.l.length x.t.c] 53) := ⟨_, rfl⟩
  have b1 : Below w.heap.size w W1 := by rw [hW1]; exact (Below.refl _ _).alloc (Nat.le_refl _) _
  have z1 : w.heap.size < W1.heap.size := by rw [hW1]; simp
  have xb : Nt.Box W1 w.heap.size x := by rw [hW1]; exact Nt.Box.new _ _ _
  have ht := (Nt.E_in (hin.below (b1.mono hB))).t
  have HGA : Hid (∀ v : Near W1, Calls Try.prog 83 #[.agg #[.int .i64 x.o, .int .i64 x.i, .int .i64 x.t.k, .int .i64 x.t.n, .string x.t.t, .slice x.t.A x.t.l.length x.t.c]] v.at_ fun e w' => e = .returned (.int .i64 x.top) ∧ Below v.at_.heap.size v.at_ w') := fun v => greatestA_any x v.at_
  obtain ⟨XE, hXE⟩ : ∃ X, X = D.eqB x.t zeroD := ⟨_, rfl⟩
  have HE : Hid (∀ v : Near W1, Calls Try.prog 60 #[.agg #[.int .i64 x.t.k, .int .i64 x.t.n, .string x.t.t, .slice x.t.A x.t.l.length x.t.c], .agg #[.int .i64 0, .int .i64 0, .string ⟨#[]⟩, .slice none 0 0]] v.at_ fun e w' => e = .returned (.bool XE) ∧ Below v.at_.heap.size v.at_ w') := fun v => by
    rw [hXE]
    exact implEqual_any x.t.size x.t zeroD B v.at_ (Nat.le_refl _) (ht.below (v.below.mono (by omega))) (zeroD_in_ _ _) (by have := v.size; omega)
  obtain ⟨XD, hXD⟩ : ∃ X, X = x.t.isD := ⟨_, rfl⟩
  have HD : Hid (∀ v : World, Below W1.heap.size W1 v → Calls Try.prog 82 #[.agg #[.int .i64 x.t.k, .int .i64 x.t.n, .string x.t.t, .slice x.t.A x.t.l.length x.t.c]] v fun e w' => e = .returned (.bool XD) ∧ Below v.heap.size v w') := fun v hv => by
    rw [hXD]
    exact implIsD_any x.t B v (ht.below (hv.mono (by omega))) (by have := hv.size; omega)
  obtain ⟨N, hN⟩ : ∃ N, N = opNm x.o := ⟨_, rfl⟩
  have HO : Hid (Calls Try.prog 8 #[.int .i64 x.o] W1 fun e w' => e = .returned (.string N) ∧ Below W1.heap.size W1 w') := by show Calls _ _ _ _ _; rw [hN]; exact implOp_any x.o W1
  have hnil := opNm_nil x.o
  rw [← hN] at hnil
  clear hN
  have XB := Lib.hid xb
  unfold Nt.val
  obtain ⟨a0, a1, a2, a3, a4, a5⟩ := xb
  by_cases hop : 1 ≤ x.o ∧ x.o ≤ 20
  · rw [decide_eq_true hop] at hnil
    have n0 : (N.toList == []) = false := hnil
    clear hnil
    by_cases h1 : x.o = 1
    · have K := Lib.hid (Nt.ok_one h1)
      rw [← hXD] at K
      have H1 := Lib.hid h1
      clear hXD hXE h1
      by_cases hi : x.i = 0
      · have hi2 : (x.i == 0) = true := by simp [hi]
        have HQ : Hid (x.ok = XD) := by show _ = _; rw [K.out, hi2]; rfl
        have HI := Lib.hid hi
        clear hi2 hop hi
        go_enter Try.func68, Try.ntmps68
        go_upto_region 1 with fail
        rw [← hW1]
        clear hW1
        go_wp2_with fail
        clear a0 a1 a2 a3 a4 a5
        (with_reducible refine HO.out.mono ?_)
        rintro e w2 ⟨rfl, hb2⟩
        have z2 := hb2.size
        have b2 := b1.trans (hb2.mono (by omega))
        have XC := XB.out.below hb2 z1
        obtain ⟨a0, a1, a2, a3, a4, a5⟩ := id XC
        have h1 := H1.out
        have hi := HI.out
        go_wp2_with fail
        (with_reducible refine (HD.out _ hb2).mono ?_)
        rintro e w3 ⟨rfl, hb3⟩
        have b2 := b2.trans (hb3.mono (by omega))
        go_wp2_with fail
        go_ret
        exact ⟨ret_bool HQ.out.symm, b2⟩
      · have hi2 : (x.i == 0) = false := by simp [hi]
        have HQ : Hid (x.ok = false) := by show _ = _; rw [K.out, hi2]; rfl
        clear hi2 hop
        go_enter Try.func68, Try.ntmps68
        go_upto_region 1 with fail
        rw [← hW1]
        clear hW1
        go_wp2_with fail
        clear a0 a1 a2 a3 a4 a5
        (with_reducible refine HO.out.mono ?_)
        rintro e w2 ⟨rfl, hb2⟩
        have z2 := hb2.size
        have b2 := b1.trans (hb2.mono (by omega))
        have XC := XB.out.below hb2 z1
        obtain ⟨a0, a1, a2, a3, a4, a5⟩ := id XC
        have h1 := H1.out
        go_wp2_with fail
        go_ret
        exact ⟨ret_bool HQ.out.symm, b2⟩
    · have K := Lib.hid (Nt.ok_else hop h1)
      rw [← hXE] at K
      clear hXD hXE
      by_cases hi : 0 ≤ x.i
      · by_cases hj : x.i ≤ x.top
        · skip
          have HQ : Hid (x.ok = XE) := by show _ = _; rw [K.out, decide_eq_true hi, decide_eq_true hj]; rfl
          clear hop
          go_enter Try.func68, Try.ntmps68
          go_upto_region 1 with fail
          rw [← hW1]
          clear hW1
          go_wp2_with fail
          clear a0 a1 a2 a3 a4 a5
          (with_reducible refine HO.out.mono ?_)
          rintro e w2 ⟨rfl, hb2⟩
          have z2 := hb2.size
          have b2 := b1.trans (hb2.mono (by omega))
          have XC := XB.out.below hb2 z1
          obtain ⟨a0, a1, a2, a3, a4, a5⟩ := id XC
          have nc0 : ∀ v : Near w2, v.at_.cell? ⟨w.heap.size, 0, none⟩ = some (.int .i64 x.o) := fun v => v.cell _ a0 (by omega)
          have nc1 : ∀ v : Near w2, v.at_.cell? ⟨w.heap.size, 1, none⟩ = some (.int .i64 x.i) := fun v => v.cell _ a1 (by omega)
          have nc2 : ∀ v : Near w2, v.at_.cell? ⟨w.heap.size, 2, none⟩ = some (.int .i64 x.t.k) := fun v => v.cell _ a2 (by omega)
          have nc3 : ∀ v : Near w2, v.at_.cell? ⟨w.heap.size, 3, none⟩ = some (.int .i64 x.t.n) := fun v => v.cell _ a3 (by omega)
          have nc4 : ∀ v : Near w2, v.at_.cell? ⟨w.heap.size, 4, none⟩ = some (.string x.t.t) := fun v => v.cell _ a4 (by omega)
          have nc5 : ∀ v : Near w2, v.at_.cell? ⟨w.heap.size, 5, none⟩ = some (.slice x.t.A x.t.l.length x.t.c) := fun v => v.cell _ a5 (by omega)
          have HGB : Hid (∀ v : Near w2, Calls Try.prog 83 #[.agg #[.int .i64 x.o, .int .i64 x.i, .int .i64 x.t.k, .int .i64 x.t.n, .string x.t.t, .slice x.t.A x.t.l.length x.t.c]] v.at_ fun e w' => e = .returned (.int .i64 x.top) ∧ Below v.at_.heap.size v.at_ w') := fun v => HGA.out ⟨v.at_, hb2.trans (v.below.mono z2)⟩
          have HEB : Hid (∀ v : Near w2, Calls Try.prog 60 #[.agg #[.int .i64 x.t.k, .int .i64 x.t.n, .string x.t.t, .slice x.t.A x.t.l.length x.t.c], .agg #[.int .i64 0, .int .i64 0, .string ⟨#[]⟩, .slice none 0 0]] v.at_ fun e w' => e = .returned (.bool XE) ∧ Below v.at_.heap.size v.at_ w') := fun v => HE.out ⟨v.at_, hb2.trans (v.below.mono z2)⟩
          go_upto_region 5 with fail
          clear a0 a1 a2 a3 a4 a5
          refine wp_region_near (by kernel_rfl) (by kernel_rfl) ?_
          repeat (go_big_quiet_step (first | (go_at_call 83; with_reducible exact Calls.near (HGB.out _)) | (go_at_call 60; with_reducible exact Calls.near (HEB.out _))))
          refine wpQuiet_nil ?_
          intro _ hw1
          obtain ⟨nx, hw2⟩ := hw1
          subst hw2
          have b2 := b2.trans (nx.below.mono (by omega))
          go_wp2_with fail
          go_ret
          exact ⟨ret_bool HQ.out.symm, b2⟩
        · skip
          have HQ : Hid (x.ok = false) := by show _ = _; rw [K.out, decide_eq_false hj]; simp
          clear hop
          have hjd : decide (x.i ≤ x.top) = false := decide_eq_false hj
          go_enter Try.func68, Try.ntmps68
          go_upto_region 1 with fail
          rw [← hW1]
          clear hW1
          go_wp2_with fail
          clear a0 a1 a2 a3 a4 a5
          (with_reducible refine HO.out.mono ?_)
          rintro e w2 ⟨rfl, hb2⟩
          have z2 := hb2.size
          have b2 := b1.trans (hb2.mono (by omega))
          have XC := XB.out.below hb2 z1
          obtain ⟨a0, a1, a2, a3, a4, a5⟩ := id XC
          have nc0 : ∀ v : Near w2, v.at_.cell? ⟨w.heap.size, 0, none⟩ = some (.int .i64 x.o) := fun v => v.cell _ a0 (by omega)
          have nc1 : ∀ v : Near w2, v.at_.cell? ⟨w.heap.size, 1, none⟩ = some (.int .i64 x.i) := fun v => v.cell _ a1 (by omega)
          have nc2 : ∀ v : Near w2, v.at_.cell? ⟨w.heap.size, 2, none⟩ = some (.int .i64 x.t.k) := fun v => v.cell _ a2 (by omega)
          have nc3 : ∀ v : Near w2, v.at_.cell? ⟨w.heap.size, 3, none⟩ = some (.int .i64 x.t.n) := fun v => v.cell _ a3 (by omega)
          have nc4 : ∀ v : Near w2, v.at_.cell? ⟨w.heap.size, 4, none⟩ = some (.string x.t.t) := fun v => v.cell _ a4 (by omega)
          have nc5 : ∀ v : Near w2, v.at_.cell? ⟨w.heap.size, 5, none⟩ = some (.slice x.t.A x.t.l.length x.t.c) := fun v => v.cell _ a5 (by omega)
          have HGB : Hid (∀ v : Near w2, Calls Try.prog 83 #[.agg #[.int .i64 x.o, .int .i64 x.i, .int .i64 x.t.k, .int .i64 x.t.n, .string x.t.t, .slice x.t.A x.t.l.length x.t.c]] v.at_ fun e w' => e = .returned (.int .i64 x.top) ∧ Below v.at_.heap.size v.at_ w') := fun v => HGA.out ⟨v.at_, hb2.trans (v.below.mono z2)⟩
          have HEB : Hid (∀ v : Near w2, Calls Try.prog 60 #[.agg #[.int .i64 x.t.k, .int .i64 x.t.n, .string x.t.t, .slice x.t.A x.t.l.length x.t.c], .agg #[.int .i64 0, .int .i64 0, .string ⟨#[]⟩, .slice none 0 0]] v.at_ fun e w' => e = .returned (.bool XE) ∧ Below v.at_.heap.size v.at_ w') := fun v => HE.out ⟨v.at_, hb2.trans (v.below.mono z2)⟩
          go_upto_region 5 with fail
          clear a0 a1 a2 a3 a4 a5
          refine wp_region_near (by kernel_rfl) (by kernel_rfl) ?_
          repeat (go_big_quiet_step (first | (go_at_call 83; with_reducible exact Calls.near (HGB.out _)) | (go_at_call 60; with_reducible exact Calls.near (HEB.out _))))
          refine wpQuiet_nil ?_
          intro _ hw1
          obtain ⟨nx, hw2⟩ := hw1
          subst hw2
          have b2 := b2.trans (nx.below.mono (by omega))
          go_wp2_with fail
          go_ret
          exact ⟨ret_bool HQ.out.symm, b2⟩
      · skip
        have HQ : Hid (x.ok = false) := by show _ = _; rw [K.out, decide_eq_false hi]; simp
        clear hop
        have hid : decide (0 ≤ x.i) = false := decide_eq_false hi
        go_enter Try.func68, Try.ntmps68
        go_upto_region 1 with fail
        rw [← hW1]
        clear hW1
        go_wp2_with fail
        clear a0 a1 a2 a3 a4 a5
        (with_reducible refine HO.out.mono ?_)
        rintro e w2 ⟨rfl, hb2⟩
        have z2 := hb2.size
        have b2 := b1.trans (hb2.mono (by omega))
        have XC := XB.out.below hb2 z1
        obtain ⟨a0, a1, a2, a3, a4, a5⟩ := id XC
        have nc0 : ∀ v : Near w2, v.at_.cell? ⟨w.heap.size, 0, none⟩ = some (.int .i64 x.o) := fun v => v.cell _ a0 (by omega)
        have nc1 : ∀ v : Near w2, v.at_.cell? ⟨w.heap.size, 1, none⟩ = some (.int .i64 x.i) := fun v => v.cell _ a1 (by omega)
        have nc2 : ∀ v : Near w2, v.at_.cell? ⟨w.heap.size, 2, none⟩ = some (.int .i64 x.t.k) := fun v => v.cell _ a2 (by omega)
        have nc3 : ∀ v : Near w2, v.at_.cell? ⟨w.heap.size, 3, none⟩ = some (.int .i64 x.t.n) := fun v => v.cell _ a3 (by omega)
        have nc4 : ∀ v : Near w2, v.at_.cell? ⟨w.heap.size, 4, none⟩ = some (.string x.t.t) := fun v => v.cell _ a4 (by omega)
        have nc5 : ∀ v : Near w2, v.at_.cell? ⟨w.heap.size, 5, none⟩ = some (.slice x.t.A x.t.l.length x.t.c) := fun v => v.cell _ a5 (by omega)
        have HGB : Hid (∀ v : Near w2, Calls Try.prog 83 #[.agg #[.int .i64 x.o, .int .i64 x.i, .int .i64 x.t.k, .int .i64 x.t.n, .string x.t.t, .slice x.t.A x.t.l.length x.t.c]] v.at_ fun e w' => e = .returned (.int .i64 x.top) ∧ Below v.at_.heap.size v.at_ w') := fun v => HGA.out ⟨v.at_, hb2.trans (v.below.mono z2)⟩
        have HEB : Hid (∀ v : Near w2, Calls Try.prog 60 #[.agg #[.int .i64 x.t.k, .int .i64 x.t.n, .string x.t.t, .slice x.t.A x.t.l.length x.t.c], .agg #[.int .i64 0, .int .i64 0, .string ⟨#[]⟩, .slice none 0 0]] v.at_ fun e w' => e = .returned (.bool XE) ∧ Below v.at_.heap.size v.at_ w') := fun v => HE.out ⟨v.at_, hb2.trans (v.below.mono z2)⟩
        go_upto_region 5 with fail
        clear a0 a1 a2 a3 a4 a5
        refine wp_region_near (by kernel_rfl) (by kernel_rfl) ?_
        repeat (go_big_quiet_step (first | (go_at_call 83; with_reducible exact Calls.near (HGB.out _)) | (go_at_call 60; with_reducible exact Calls.near (HEB.out _))))
        refine wpQuiet_nil ?_
        intro _ hw1
        obtain ⟨nx, hw2⟩ := hw1
        subst hw2
        have b2 := b2.trans (nx.below.mono (by omega))
        go_wp2_with fail
        go_ret
        exact ⟨ret_bool HQ.out.symm, b2⟩
  · rw [decide_eq_false hop] at hnil
    have n0 : (N.toList == []) = true := hnil
    clear hnil
    have HQ := Lib.hid (Nt.ok_no hop)
    clear hop
    go_enter Try.func68, Try.ntmps68
    go_upto_region 1 with fail
    rw [← hW1]
    clear hW1
    go_wp2_with fail
    clear a0 a1 a2 a3 a4 a5
    (with_reducible refine HO.out.mono ?_)
    rintro e w2 ⟨rfl, hb2⟩
    have z2 := hb2.size
    have b2 := b1.trans (hb2.mono (by omega))
    have XC := XB.out.below hb2 z1
    obtain ⟨a0, a1, a2, a3, a4, a5⟩ := id XC
    go_wp2_with fail
    go_ret
    exact ⟨ret_bool HQ.out.symm, b2⟩

set_option maxRecDepth 100000 in
theorem l10Plain_any (x : Nt) (w : World) : Calls Try.prog 63 #[.int .i64 x.o] w fun e w' => e = .returned (.bool x.bare) ∧ w' = w := by
  have K : Hid (x.bare = ((x.o == 14) || (x.o == 17))) := rfl
  cases q0 : (x.o == 14)
  · cases q1 : (x.o == 17)
    · skip
      have HQ : Hid (x.bare = false) := by show _ = _; rw [K.out, q0, q1]; rfl
      go_enter Try.func63, Try.ntmps63
      go_wp2_with fail
      go_ret
      exact ⟨ret_bool HQ.out.symm, rfl⟩
    · skip
      have HQ : Hid (x.bare = true) := by show _ = _; rw [K.out, q0, q1]; rfl
      go_enter Try.func63, Try.ntmps63
      go_wp2_with fail
      go_ret
      exact ⟨ret_bool HQ.out.symm, rfl⟩
  · skip
    have HQ : Hid (x.bare = true) := by show _ = _; rw [K.out, q0]; rfl
    go_enter Try.func63, Try.ntmps63
    go_wp2_with fail
    go_ret
    exact ⟨ret_bool HQ.out.symm, rfl⟩

set_option maxRecDepth 100000 in
set_option maxHeartbeats 2000000 in
theorem l10Instr_any (x : Nt) (B : Nat) (w : World) (hin : Nt.E.In w B x) (hB : B ≤ w.heap.size) (hs : x.t.size ≤ 2000000) : Calls Try.prog 45 #[Nt.val x] w fun e w' => e = .returned (.bool x.ok) ∧ Below w.heap.size w w' := by
  obtain ⟨W1, hW1⟩ : ∃ W1, W1 = w.alloc (.cells #[.int .i64 x.o, .int .i64 x.i, .int .i64 x.t.k, .int .i64 x.t.n, .string x.t.t, .slice x.t.A x.t.l.length x.t.c] 53) := ⟨_, rfl⟩
  have b1 : Below w.heap.size w W1 := by rw [hW1]; exact (Below.refl _ _).alloc (Nat.le_refl _) _
  have z1 : w.heap.size < W1.heap.size := by rw [hW1]; simp
  have xb : Nt.Box W1 w.heap.size x := by rw [hW1]; exact Nt.Box.new _ _ _
  have ht := (Nt.E_in (hin.below (b1.mono hB))).t
  obtain ⟨XE, hXE⟩ : ∃ X, X = D.eqB x.t zeroD := ⟨_, rfl⟩
  have HE : Hid (Calls Try.prog 25 #[.agg #[.int .i64 x.t.k, .int .i64 x.t.n, .string x.t.t, .slice x.t.A x.t.l.length x.t.c], .agg #[.int .i64 0, .int .i64 0, .string ⟨#[]⟩, .slice none 0 0]] W1 fun e w' => e = .returned (.bool XE) ∧ Below W1.heap.size W1 w') := by
    show Calls _ _ _ _ _
    rw [hXE]
    exact specEqual_any x.t.size x.t zeroD B W1 (Nat.le_refl _) ht (zeroD_in_ _ _) (by omega)
  obtain ⟨XD, hXD⟩ : ∃ X, X = x.t.isD := ⟨_, rfl⟩
  have HD : Hid (Calls Try.prog 62 #[.agg #[.int .i64 x.t.k, .int .i64 x.t.n, .string x.t.t, .slice x.t.A x.t.l.length x.t.c]] W1 fun e w' => e = .returned (.bool XD) ∧ Below W1.heap.size W1 w') := by
    show Calls _ _ _ _ _
    rw [hXD]
    exact specIsD_any x.t B W1 ht (by omega) hs
  have XB := Lib.hid xb
  unfold Nt.val
  obtain ⟨a0, a1, a2, a3, a4, a5⟩ := xb
  by_cases hop : 1 ≤ x.o ∧ x.o ≤ 20
  · by_cases h1 : x.o = 1
    · have K := Lib.hid (Nt.ok_one h1)
      rw [← hXD] at K
      have H1 := Lib.hid h1
      clear hXD hXE h1
      by_cases hi : x.i = 0
      · have hi2 : (x.i == 0) = true := by simp [hi]
        have HQ : Hid (x.ok = XD) := by show _ = _; rw [K.out, hi2]; rfl
        have HI := Lib.hid hi
        clear hi2 hi
        go_enter Try.func45, Try.ntmps45
        go_upto_region 1 with fail
        rw [← hW1]
        clear hW1
        go_wp2_with fail
        (with_reducible refine (l1In_any x.o 1 20 W1).mono ?_)
        rintro e w2 ⟨rfl, rfl⟩
        rw [decide_eq_true hop]
        clear hop
        have h1 := H1.out
        have hi := HI.out
        go_wp2_with fail
        (with_reducible refine HD.out.mono ?_)
        rintro e w3 ⟨rfl, hb3⟩
        have b1 := b1.trans (hb3.mono (by omega))
        go_wp2_with fail
        go_ret
        exact ⟨ret_bool HQ.out.symm, b1⟩
      · have hi2 : (x.i == 0) = false := by simp [hi]
        have HQ : Hid (x.ok = false) := by show _ = _; rw [K.out, hi2]; rfl
        clear hi2
        go_enter Try.func45, Try.ntmps45
        go_upto_region 1 with fail
        rw [← hW1]
        clear hW1
        go_wp2_with fail
        (with_reducible refine (l1In_any x.o 1 20 W1).mono ?_)
        rintro e w2 ⟨rfl, rfl⟩
        rw [decide_eq_true hop]
        clear hop
        have h1 := H1.out
        go_wp2_with fail
        go_ret
        exact ⟨ret_bool HQ.out.symm, b1⟩
    · have K := Lib.hid (Nt.ok_else hop h1)
      rw [← hXE] at K
      clear hXD hXE
      have HP := fun u => l10Plain_any x u
      have HT : Hid (x.top = if x.bare then 0 else 4000) := rfl
      cases XE
      · skip
        have HQ : Hid (x.ok = false) := by show _ = _; rw [K.out]; simp
        go_enter Try.func45, Try.ntmps45
        go_upto_region 1 with fail
        rw [← hW1]
        clear hW1
        go_wp2_with fail
        (with_reducible refine (l1In_any x.o 1 20 W1).mono ?_)
        rintro e w2 ⟨rfl, rfl⟩
        rw [decide_eq_true hop]
        clear hop
        go_wp2_with fail
        clear a0 a1 a2 a3 a4 a5
        (with_reducible refine HE.out.mono ?_)
        rintro e w3 ⟨rfl, hb3⟩
        have XC := XB.out.below hb3 z1
        obtain ⟨a0, a1, a2, a3, a4, a5⟩ := XC
        have b1 := b1.trans (hb3.mono (by omega))
        go_wp2_with fail
        go_ret
        exact ⟨ret_bool HQ.out.symm, b1⟩
      · by_cases hr : 0 ≤ x.i ∧ x.i ≤ 4000
        · by_cases hi : x.i = 0
          · have hi2 : (x.i == 0) = true := by simp [hi]
            have HQ : Hid (x.ok = true) := by show _ = _; rw [K.out, decide_eq_true hr.1, decide_eq_true (by rw [HT.out]; split <;> omega)]; rfl
            have HI := Lib.hid hi
            clear hi hi2
            go_enter Try.func45, Try.ntmps45
            go_upto_region 1 with fail
            rw [← hW1]
            clear hW1
            go_wp2_with fail
            (with_reducible refine (l1In_any x.o 1 20 W1).mono ?_)
            rintro e w2 ⟨rfl, rfl⟩
            rw [decide_eq_true hop]
            clear hop
            go_wp2_with fail
            clear a0 a1 a2 a3 a4 a5
            (with_reducible refine HE.out.mono ?_)
            rintro e w3 ⟨rfl, hb3⟩
            have XC := XB.out.below hb3 z1
            obtain ⟨a0, a1, a2, a3, a4, a5⟩ := XC
            have b1 := b1.trans (hb3.mono (by omega))
            go_wp2_with fail
            (with_reducible refine (l1In_any x.i 0 4000 _).mono ?_)
            rintro e w4 ⟨rfl, hw4⟩
            obtain rfl := hw4
            have hi := HI.out
            rw [decide_eq_true hr]
            clear hr
            go_wp2_with fail
            go_ret
            exact ⟨ret_bool HQ.out.symm, b1⟩
          · have hi2 : (x.i == 0) = false := by simp [hi]
            cases hb : x.bare
            · rw [hb] at HP HT
              have HQ : Hid (x.ok = true) := by show _ = _; rw [K.out, decide_eq_true hr.1, decide_eq_true (show x.i ≤ x.top by rw [HT.out]; simpa using hr.2)]; rfl
              clear HT hb
              go_enter Try.func45, Try.ntmps45
              go_upto_region 1 with fail
              rw [← hW1]
              clear hW1
              go_wp2_with fail
              (with_reducible refine (l1In_any x.o 1 20 W1).mono ?_)
              rintro e w2 ⟨rfl, rfl⟩
              rw [decide_eq_true hop]
              clear hop
              go_wp2_with fail
              clear a0 a1 a2 a3 a4 a5
              (with_reducible refine HE.out.mono ?_)
              rintro e w3 ⟨rfl, hb3⟩
              have XC := XB.out.below hb3 z1
              obtain ⟨a0, a1, a2, a3, a4, a5⟩ := XC
              have b1 := b1.trans (hb3.mono (by omega))
              go_wp2_with fail
              (with_reducible refine (l1In_any x.i 0 4000 _).mono ?_)
              rintro e w4 ⟨rfl, hw4⟩
              obtain rfl := hw4
              rw [decide_eq_true hr]
              clear hr
              go_wp2_with fail
              (with_reducible refine (HP _).mono ?_)
              rintro e w5 ⟨rfl, hw5⟩
              obtain rfl := hw5
              go_wp2_with fail
              go_ret
              exact ⟨ret_bool HQ.out.symm, b1⟩
            · rw [hb] at HP HT
              have HQ : Hid (x.ok = false) := by show _ = _; rw [K.out, decide_eq_false (show ¬ x.i ≤ x.top by rw [HT.out]; simp; omega)]; simp
              clear HT hb
              go_enter Try.func45, Try.ntmps45
              go_upto_region 1 with fail
              rw [← hW1]
              clear hW1
              go_wp2_with fail
              (with_reducible refine (l1In_any x.o 1 20 W1).mono ?_)
              rintro e w2 ⟨rfl, rfl⟩
              rw [decide_eq_true hop]
              clear hop
              go_wp2_with fail
              clear a0 a1 a2 a3 a4 a5
              (with_reducible refine HE.out.mono ?_)
              rintro e w3 ⟨rfl, hb3⟩
              have XC := XB.out.below hb3 z1
              obtain ⟨a0, a1, a2, a3, a4, a5⟩ := XC
              have b1 := b1.trans (hb3.mono (by omega))
              go_wp2_with fail
              (with_reducible refine (l1In_any x.i 0 4000 _).mono ?_)
              rintro e w4 ⟨rfl, hw4⟩
              obtain rfl := hw4
              rw [decide_eq_true hr]
              clear hr
              go_wp2_with fail
              (with_reducible refine (HP _).mono ?_)
              rintro e w5 ⟨rfl, hw5⟩
              obtain rfl := hw5
              go_wp2_with fail
              go_ret
              exact ⟨ret_bool HQ.out.symm, b1⟩
        · skip
          have HQ : Hid (x.ok = false) := by
            show _ = _
            rw [K.out]
            by_cases g : 0 ≤ x.i
            · rw [decide_eq_false (show ¬ x.i ≤ x.top by rw [HT.out]; split <;> omega)]; simp
            · rw [decide_eq_false g]; simp
          go_enter Try.func45, Try.ntmps45
          go_upto_region 1 with fail
          rw [← hW1]
          clear hW1
          go_wp2_with fail
          (with_reducible refine (l1In_any x.o 1 20 W1).mono ?_)
          rintro e w2 ⟨rfl, rfl⟩
          rw [decide_eq_true hop]
          clear hop
          go_wp2_with fail
          clear a0 a1 a2 a3 a4 a5
          (with_reducible refine HE.out.mono ?_)
          rintro e w3 ⟨rfl, hb3⟩
          have XC := XB.out.below hb3 z1
          obtain ⟨a0, a1, a2, a3, a4, a5⟩ := XC
          have b1 := b1.trans (hb3.mono (by omega))
          go_wp2_with fail
          (with_reducible refine (l1In_any x.i 0 4000 _).mono ?_)
          rintro e w4 ⟨rfl, hw4⟩
          obtain rfl := hw4
          rw [decide_eq_false hr]
          clear hr
          go_wp2_with fail
          go_ret
          exact ⟨ret_bool HQ.out.symm, b1⟩
  · skip
    have HQ := Lib.hid (Nt.ok_no hop)
    go_enter Try.func45, Try.ntmps45
    go_upto_region 1 with fail
    rw [← hW1]
    clear hW1
    go_wp2_with fail
    (with_reducible refine (l1In_any x.o 1 20 W1).mono ?_)
    rintro e w2 ⟨rfl, rfl⟩
    rw [decide_eq_false hop]
    clear hop
    go_wp2_with fail
    go_ret
    exact ⟨ret_bool HQ.out.symm, b1⟩
end Go.Proofs.Ytpigpncbjckbcaa
