/-
  The model's test of the shape of a node, kind by kind (written by gen/koshape.py).
-/
import Derived.Test.YtpigpncbjckbcaaGreatKcB
namespace Go.Proofs.YtpigpncbjckbcaaGreat
open Go.RowKit
set_option maxRecDepth 100000 in
set_option maxHeartbeats 600000 in
theorem shape1_any (d : Tr Ko) (B : Nat) (w : World) (hin : Ko.E.In w B d) (hB : B ≤ w.heap.size) (hsz : d.a.d.size ≤ 2000000) (hk : d.a.k = 1) : Calls Tryz.prog 237 #[Ko.val d] w fun e w' => e = .returned (.bool (d.a.shape d.l.length)) ∧ Below w.heap.size w w' := by
  have hd := (Ko.E_in hin).1.d
  obtain ⟨W, hW⟩ : ∃ W, W = w.alloc (.cells #[.int .i64 d.a.k, .int .i64 d.a.n, .slice d.a.sA d.a.s.length d.a.sC, .int .i64 d.a.d.k, .int .i64 d.a.d.n, .string d.a.d.t, .slice d.a.d.A d.a.d.l.length d.a.d.c, .slice d.A d.l.length d.c] 35) := ⟨_, rfl⟩
  have zW : W.heap.size = w.heap.size + 1 := by rw [hW]; simp
  have zl : w.heap.size < W.heap.size := by omega
  have hcur : Below w.heap.size w W := by rw [hW]; exact (Below.refl _ _).alloc (Nat.le_refl _) _
  have X : Ko.Box W w.heap.size d := by rw [hW]; exact Ko.Box.new _ _ _
  clear zW
  have HV : Hid (d.a.isVar = false) := by show _ = _; unfold Ko.isVar; rw [hk]; rfl
  have HNM : Hid (∀ w' : World, Calls Tryz.prog 101 #[.agg #[.int .i64 1, .int .i64 d.a.n, .slice d.a.sA d.a.s.length d.a.sC, .int .i64 d.a.d.k, .int .i64 d.a.d.n, .string d.a.d.t, .slice d.a.d.A d.a.d.l.length d.a.d.c, .slice d.A d.l.length d.c]] w' fun e w'' => e = .returned (.bool d.a.isVar) ∧ Below w'.heap.size w' w'') := fun w' => by
    have h := specNames_u d w'
    rwa [hk] at h
  unfold Ko.val
  have Xq := X
  obtain ⟨a0, a1, a2, a3, a4, a5, a6, a7⟩ := Xq
  cases qn : (d.a.n == 0)
  · have qn2 : (d.a.n != 0) = true := by unfold bne; rw [qn]; rfl
    have hS : d.a.shape d.l.length = false := by simp [Ko.shape, kKind, Ko.isVar, hk, qn]
    have HS := Lib.hid hS
    clear hS
    have H_hk := Lib.hid hk
    have H_qn := Lib.hid qn
    have H_qn2 := Lib.hid qn2
    clear hk qn qn2
    go_enter Tryz.func237, Tryz.ntmps237
    go_upto_region 1 with fail
    rw [← hW]
    clear hW
    have hk := H_hk.out
    have qn := H_qn.out
    have qn2 := H_qn2.out
    go_wp2_with (first
      | (go_at_call 266; with_reducible refine (eqz_any d B _ (hd.below (hcur.mono hB)) (Nat.le_trans hB hcur.size)).mono ?_; rintro e wn ⟨rfl, hbn⟩; rw [HDZ.out]; have X := X.below hbn zl; have hcur := hcur.trans (hbn.mono (Nat.le_of_lt zl)); have zl := Nat.lt_of_lt_of_le zl hbn.size; have Xq := X; obtain ⟨a0, a1, a2, a3, a4, a5, a6, a7⟩ := Xq)
      | (go_at_call 101; with_reducible refine (HNM.out _).mono ?_; rintro e wn ⟨rfl, hbn⟩; rw [HV.out]; have X := X.below hbn zl; have hcur := hcur.trans (hbn.mono (Nat.le_of_lt zl)); have zl := Nat.lt_of_lt_of_le zl hbn.size; have Xq := X; obtain ⟨a0, a1, a2, a3, a4, a5, a6, a7⟩ := Xq)
      | (go_at_call 267; with_reducible refine (specIsD_u d B _ (hd.below (hcur.mono hB)) (Nat.le_trans hB hcur.size) hsz).mono ?_; rintro e wn ⟨rfl, hbn⟩; rw [HDV.out]; have X := X.below hbn zl; have hcur := hcur.trans (hbn.mono (Nat.le_of_lt zl)); have zl := Nat.lt_of_lt_of_le zl hbn.size; have Xq := X; obtain ⟨a0, a1, a2, a3, a4, a5, a6, a7⟩ := Xq)
      | (go_at_call 43; with_reducible refine (l1In_any _ _ _ _).mono ?_; rintro e wn ⟨rfl, hwn⟩; obtain rfl := hwn; rw [HI1.out])
      | (go_at_call 43; with_reducible refine (l1In_any _ _ _ _).mono ?_; rintro e wn ⟨rfl, hwn⟩; obtain rfl := hwn; rw [HI2.out]))
    go_ret
    exact ⟨by first | exact ret_bool HS.out.symm | exact ret_bool (by rw [HS.out]; simp; omega), by first | exact hcur | exact hcur.drew⟩
  · have qn2 : (d.a.n != 0) = false := by unfold bne; rw [qn]; rfl
    cases q0 : ((d.l.length : Int) == 0)
    · have hS : d.a.shape d.l.length = false := by simp [Ko.shape, kKind, Ko.isVar, hk, qn, q0]
      have HS := Lib.hid hS
      clear hS
      have H_hk := Lib.hid hk
      have H_qn := Lib.hid qn
      have H_q0 := Lib.hid q0
      have H_qn2 := Lib.hid qn2
      clear hk qn q0 qn2
      go_enter Tryz.func237, Tryz.ntmps237
      go_upto_region 1 with fail
      rw [← hW]
      clear hW
      have hk := H_hk.out
      have qn := H_qn.out
      have q0 := H_q0.out
      have qn2 := H_qn2.out
      go_wp2_with (first
        | (go_at_call 266; with_reducible refine (eqz_any d B _ (hd.below (hcur.mono hB)) (Nat.le_trans hB hcur.size)).mono ?_; rintro e wn ⟨rfl, hbn⟩; rw [HDZ.out]; have X := X.below hbn zl; have hcur := hcur.trans (hbn.mono (Nat.le_of_lt zl)); have zl := Nat.lt_of_lt_of_le zl hbn.size; have Xq := X; obtain ⟨a0, a1, a2, a3, a4, a5, a6, a7⟩ := Xq)
        | (go_at_call 101; with_reducible refine (HNM.out _).mono ?_; rintro e wn ⟨rfl, hbn⟩; rw [HV.out]; have X := X.below hbn zl; have hcur := hcur.trans (hbn.mono (Nat.le_of_lt zl)); have zl := Nat.lt_of_lt_of_le zl hbn.size; have Xq := X; obtain ⟨a0, a1, a2, a3, a4, a5, a6, a7⟩ := Xq)
        | (go_at_call 267; with_reducible refine (specIsD_u d B _ (hd.below (hcur.mono hB)) (Nat.le_trans hB hcur.size) hsz).mono ?_; rintro e wn ⟨rfl, hbn⟩; rw [HDV.out]; have X := X.below hbn zl; have hcur := hcur.trans (hbn.mono (Nat.le_of_lt zl)); have zl := Nat.lt_of_lt_of_le zl hbn.size; have Xq := X; obtain ⟨a0, a1, a2, a3, a4, a5, a6, a7⟩ := Xq)
        | (go_at_call 43; with_reducible refine (l1In_any _ _ _ _).mono ?_; rintro e wn ⟨rfl, hwn⟩; obtain rfl := hwn; rw [HI1.out])
        | (go_at_call 43; with_reducible refine (l1In_any _ _ _ _).mono ?_; rintro e wn ⟨rfl, hwn⟩; obtain rfl := hwn; rw [HI2.out]))
      go_ret
      exact ⟨by first | exact ret_bool HS.out.symm | exact ret_bool (by rw [HS.out]; simp; omega), by first | exact hcur | exact hcur.drew⟩
    · cases q1 : ((d.a.s.length : Int) == 0)
      · have hS : d.a.shape d.l.length = false := by simp [Ko.shape, kKind, Ko.isVar, hk, qn, q0, q1]
        have HS := Lib.hid hS
        clear hS
        have H_hk := Lib.hid hk
        have H_qn := Lib.hid qn
        have H_q0 := Lib.hid q0
        have H_q1 := Lib.hid q1
        have H_qn2 := Lib.hid qn2
        clear hk qn q0 q1 qn2
        go_enter Tryz.func237, Tryz.ntmps237
        go_upto_region 1 with fail
        rw [← hW]
        clear hW
        have hk := H_hk.out
        have qn := H_qn.out
        have q0 := H_q0.out
        have q1 := H_q1.out
        have qn2 := H_qn2.out
        go_wp2_with (first
          | (go_at_call 266; with_reducible refine (eqz_any d B _ (hd.below (hcur.mono hB)) (Nat.le_trans hB hcur.size)).mono ?_; rintro e wn ⟨rfl, hbn⟩; rw [HDZ.out]; have X := X.below hbn zl; have hcur := hcur.trans (hbn.mono (Nat.le_of_lt zl)); have zl := Nat.lt_of_lt_of_le zl hbn.size; have Xq := X; obtain ⟨a0, a1, a2, a3, a4, a5, a6, a7⟩ := Xq)
          | (go_at_call 101; with_reducible refine (HNM.out _).mono ?_; rintro e wn ⟨rfl, hbn⟩; rw [HV.out]; have X := X.below hbn zl; have hcur := hcur.trans (hbn.mono (Nat.le_of_lt zl)); have zl := Nat.lt_of_lt_of_le zl hbn.size; have Xq := X; obtain ⟨a0, a1, a2, a3, a4, a5, a6, a7⟩ := Xq)
          | (go_at_call 267; with_reducible refine (specIsD_u d B _ (hd.below (hcur.mono hB)) (Nat.le_trans hB hcur.size) hsz).mono ?_; rintro e wn ⟨rfl, hbn⟩; rw [HDV.out]; have X := X.below hbn zl; have hcur := hcur.trans (hbn.mono (Nat.le_of_lt zl)); have zl := Nat.lt_of_lt_of_le zl hbn.size; have Xq := X; obtain ⟨a0, a1, a2, a3, a4, a5, a6, a7⟩ := Xq)
          | (go_at_call 43; with_reducible refine (l1In_any _ _ _ _).mono ?_; rintro e wn ⟨rfl, hwn⟩; obtain rfl := hwn; rw [HI1.out])
          | (go_at_call 43; with_reducible refine (l1In_any _ _ _ _).mono ?_; rintro e wn ⟨rfl, hwn⟩; obtain rfl := hwn; rw [HI2.out]))
        go_ret
        exact ⟨by first | exact ret_bool HS.out.symm | exact ret_bool (by rw [HS.out]; simp; omega), by first | exact hcur | exact hcur.drew⟩
      · cases q2 : d.a.dv
        · have HDV : Hid (D.isD d.a.d = false) := q2
          have hS : d.a.shape d.l.length = false := by simp [Ko.shape, kKind, Ko.isVar, hk, qn, q0, q1, q2]
          have HS := Lib.hid hS
          clear hS
          have H_hk := Lib.hid hk
          have H_qn := Lib.hid qn
          have H_q0 := Lib.hid q0
          have H_q1 := Lib.hid q1
          have H_q2 := Lib.hid q2
          have H_qn2 := Lib.hid qn2
          clear hk qn q0 q1 q2 qn2
          go_enter Tryz.func237, Tryz.ntmps237
          go_upto_region 1 with fail
          rw [← hW]
          clear hW
          have hk := H_hk.out
          have qn := H_qn.out
          have q0 := H_q0.out
          have q1 := H_q1.out
          have q2 := H_q2.out
          have qn2 := H_qn2.out
          go_wp2_with (first
            | (go_at_call 266; with_reducible refine (eqz_any d B _ (hd.below (hcur.mono hB)) (Nat.le_trans hB hcur.size)).mono ?_; rintro e wn ⟨rfl, hbn⟩; rw [HDZ.out]; have X := X.below hbn zl; have hcur := hcur.trans (hbn.mono (Nat.le_of_lt zl)); have zl := Nat.lt_of_lt_of_le zl hbn.size; have Xq := X; obtain ⟨a0, a1, a2, a3, a4, a5, a6, a7⟩ := Xq)
            | (go_at_call 101; with_reducible refine (HNM.out _).mono ?_; rintro e wn ⟨rfl, hbn⟩; rw [HV.out]; have X := X.below hbn zl; have hcur := hcur.trans (hbn.mono (Nat.le_of_lt zl)); have zl := Nat.lt_of_lt_of_le zl hbn.size; have Xq := X; obtain ⟨a0, a1, a2, a3, a4, a5, a6, a7⟩ := Xq)
            | (go_at_call 267; with_reducible refine (specIsD_u d B _ (hd.below (hcur.mono hB)) (Nat.le_trans hB hcur.size) hsz).mono ?_; rintro e wn ⟨rfl, hbn⟩; rw [HDV.out]; have X := X.below hbn zl; have hcur := hcur.trans (hbn.mono (Nat.le_of_lt zl)); have zl := Nat.lt_of_lt_of_le zl hbn.size; have Xq := X; obtain ⟨a0, a1, a2, a3, a4, a5, a6, a7⟩ := Xq)
            | (go_at_call 43; with_reducible refine (l1In_any _ _ _ _).mono ?_; rintro e wn ⟨rfl, hwn⟩; obtain rfl := hwn; rw [HI1.out])
            | (go_at_call 43; with_reducible refine (l1In_any _ _ _ _).mono ?_; rintro e wn ⟨rfl, hwn⟩; obtain rfl := hwn; rw [HI2.out]))
          go_ret
          exact ⟨by first | exact ret_bool HS.out.symm | exact ret_bool (by rw [HS.out]; simp; omega), by first | exact hcur | exact hcur.drew⟩
        · have HDV : Hid (D.isD d.a.d = true) := q2
          have hS : d.a.shape d.l.length = true := by simp [Ko.shape, kKind, Ko.isVar, hk, qn, q0, q1, q2]
          have HS := Lib.hid hS
          clear hS
          have H_hk := Lib.hid hk
          have H_qn := Lib.hid qn
          have H_q0 := Lib.hid q0
          have H_q1 := Lib.hid q1
          have H_q2 := Lib.hid q2
          have H_qn2 := Lib.hid qn2
          clear hk qn q0 q1 q2 qn2
          go_enter Tryz.func237, Tryz.ntmps237
          go_upto_region 1 with fail
          rw [← hW]
          clear hW
          have hk := H_hk.out
          have qn := H_qn.out
          have q0 := H_q0.out
          have q1 := H_q1.out
          have q2 := H_q2.out
          have qn2 := H_qn2.out
          go_wp2_with (first
            | (go_at_call 266; with_reducible refine (eqz_any d B _ (hd.below (hcur.mono hB)) (Nat.le_trans hB hcur.size)).mono ?_; rintro e wn ⟨rfl, hbn⟩; rw [HDZ.out]; have X := X.below hbn zl; have hcur := hcur.trans (hbn.mono (Nat.le_of_lt zl)); have zl := Nat.lt_of_lt_of_le zl hbn.size; have Xq := X; obtain ⟨a0, a1, a2, a3, a4, a5, a6, a7⟩ := Xq)
            | (go_at_call 101; with_reducible refine (HNM.out _).mono ?_; rintro e wn ⟨rfl, hbn⟩; rw [HV.out]; have X := X.below hbn zl; have hcur := hcur.trans (hbn.mono (Nat.le_of_lt zl)); have zl := Nat.lt_of_lt_of_le zl hbn.size; have Xq := X; obtain ⟨a0, a1, a2, a3, a4, a5, a6, a7⟩ := Xq)
            | (go_at_call 267; with_reducible refine (specIsD_u d B _ (hd.below (hcur.mono hB)) (Nat.le_trans hB hcur.size) hsz).mono ?_; rintro e wn ⟨rfl, hbn⟩; rw [HDV.out]; have X := X.below hbn zl; have hcur := hcur.trans (hbn.mono (Nat.le_of_lt zl)); have zl := Nat.lt_of_lt_of_le zl hbn.size; have Xq := X; obtain ⟨a0, a1, a2, a3, a4, a5, a6, a7⟩ := Xq)
            | (go_at_call 43; with_reducible refine (l1In_any _ _ _ _).mono ?_; rintro e wn ⟨rfl, hwn⟩; obtain rfl := hwn; rw [HI1.out])
            | (go_at_call 43; with_reducible refine (l1In_any _ _ _ _).mono ?_; rintro e wn ⟨rfl, hwn⟩; obtain rfl := hwn; rw [HI2.out]))
          go_ret
          exact ⟨by first | exact ret_bool HS.out.symm | exact ret_bool (by rw [HS.out]; simp; omega), by first | exact hcur | exact hcur.drew⟩
set_option maxRecDepth 100000 in
set_option maxHeartbeats 600000 in
theorem shape2_any (d : Tr Ko) (B : Nat) (w : World) (hin : Ko.E.In w B d) (hB : B ≤ w.heap.size) (hsz : d.a.d.size ≤ 2000000) (hk : d.a.k = 2) : Calls Tryz.prog 237 #[Ko.val d] w fun e w' => e = .returned (.bool (d.a.shape d.l.length)) ∧ Below w.heap.size w w' := by
  have hd := (Ko.E_in hin).1.d
  obtain ⟨W, hW⟩ : ∃ W, W = w.alloc (.cells #[.int .i64 d.a.k, .int .i64 d.a.n, .slice d.a.sA d.a.s.length d.a.sC, .int .i64 d.a.d.k, .int .i64 d.a.d.n, .string d.a.d.t, .slice d.a.d.A d.a.d.l.length d.a.d.c, .slice d.A d.l.length d.c] 35) := ⟨_, rfl⟩
  have zW : W.heap.size = w.heap.size + 1 := by rw [hW]; simp
  have zl : w.heap.size < W.heap.size := by omega
  have hcur : Below w.heap.size w W := by rw [hW]; exact (Below.refl _ _).alloc (Nat.le_refl _) _
  have X : Ko.Box W w.heap.size d := by rw [hW]; exact Ko.Box.new _ _ _
  clear zW
  have HV : Hid (d.a.isVar = true) := by show _ = _; unfold Ko.isVar; rw [hk]; rfl
  have HNM : Hid (∀ w' : World, Calls Tryz.prog 101 #[.agg #[.int .i64 2, .int .i64 d.a.n, .slice d.a.sA d.a.s.length d.a.sC, .int .i64 d.a.d.k, .int .i64 d.a.d.n, .string d.a.d.t, .slice d.a.d.A d.a.d.l.length d.a.d.c, .slice d.A d.l.length d.c]] w' fun e w'' => e = .returned (.bool d.a.isVar) ∧ Below w'.heap.size w' w'') := fun w' => by
    have h := specNames_u d w'
    rwa [hk] at h
  unfold Ko.val
  have Xq := X
  obtain ⟨a0, a1, a2, a3, a4, a5, a6, a7⟩ := Xq
  cases qz : d.a.dz
  · have HDZ : Hid (D.eqB d.a.d zeroD = false) := qz
    have hS : d.a.shape d.l.length = false := by simp [Ko.shape, kKind, Ko.isVar, hk, qz]
    have HS := Lib.hid hS
    clear hS
    have H_hk := Lib.hid hk
    have H_qz := Lib.hid qz
    clear hk qz
    go_enter Tryz.func237, Tryz.ntmps237
    go_upto_region 1 with fail
    rw [← hW]
    clear hW
    have hk := H_hk.out
    have qz := H_qz.out
    go_wp2_with (first
      | (go_at_call 266; with_reducible refine (eqz_any d B _ (hd.below (hcur.mono hB)) (Nat.le_trans hB hcur.size)).mono ?_; rintro e wn ⟨rfl, hbn⟩; rw [HDZ.out]; have X := X.below hbn zl; have hcur := hcur.trans (hbn.mono (Nat.le_of_lt zl)); have zl := Nat.lt_of_lt_of_le zl hbn.size; have Xq := X; obtain ⟨a0, a1, a2, a3, a4, a5, a6, a7⟩ := Xq)
      | (go_at_call 101; with_reducible refine (HNM.out _).mono ?_; rintro e wn ⟨rfl, hbn⟩; rw [HV.out]; have X := X.below hbn zl; have hcur := hcur.trans (hbn.mono (Nat.le_of_lt zl)); have zl := Nat.lt_of_lt_of_le zl hbn.size; have Xq := X; obtain ⟨a0, a1, a2, a3, a4, a5, a6, a7⟩ := Xq)
      | (go_at_call 267; with_reducible refine (specIsD_u d B _ (hd.below (hcur.mono hB)) (Nat.le_trans hB hcur.size) hsz).mono ?_; rintro e wn ⟨rfl, hbn⟩; rw [HDV.out]; have X := X.below hbn zl; have hcur := hcur.trans (hbn.mono (Nat.le_of_lt zl)); have zl := Nat.lt_of_lt_of_le zl hbn.size; have Xq := X; obtain ⟨a0, a1, a2, a3, a4, a5, a6, a7⟩ := Xq)
      | (go_at_call 43; with_reducible refine (l1In_any _ _ _ _).mono ?_; rintro e wn ⟨rfl, hwn⟩; obtain rfl := hwn; rw [HI1.out])
      | (go_at_call 43; with_reducible refine (l1In_any _ _ _ _).mono ?_; rintro e wn ⟨rfl, hwn⟩; obtain rfl := hwn; rw [HI2.out]))
    go_ret
    exact ⟨by first | exact ret_bool HS.out.symm | exact ret_bool (by rw [HS.out]; simp; omega), by first | exact hcur | exact hcur.drew⟩
  · have HDZ : Hid (D.eqB d.a.d zeroD = true) := qz
    cases qn : (d.a.n == 0)
    · have qn2 : (d.a.n != 0) = true := by unfold bne; rw [qn]; rfl
      cases q0 : ((d.l.length : Int) == 0)
      · have hS : d.a.shape d.l.length = false := by simp [Ko.shape, kKind, Ko.isVar, hk, qz, qn, q0]
        have HS := Lib.hid hS
        clear hS
        have H_hk := Lib.hid hk
        have H_qz := Lib.hid qz
        have H_qn := Lib.hid qn
        have H_q0 := Lib.hid q0
        have H_qn2 := Lib.hid qn2
        clear hk qz qn q0 qn2
        go_enter Tryz.func237, Tryz.ntmps237
        go_upto_region 1 with fail
        rw [← hW]
        clear hW
        have hk := H_hk.out
        have qz := H_qz.out
        have qn := H_qn.out
        have q0 := H_q0.out
        have qn2 := H_qn2.out
        go_wp2_with (first
          | (go_at_call 266; with_reducible refine (eqz_any d B _ (hd.below (hcur.mono hB)) (Nat.le_trans hB hcur.size)).mono ?_; rintro e wn ⟨rfl, hbn⟩; rw [HDZ.out]; have X := X.below hbn zl; have hcur := hcur.trans (hbn.mono (Nat.le_of_lt zl)); have zl := Nat.lt_of_lt_of_le zl hbn.size; have Xq := X; obtain ⟨a0, a1, a2, a3, a4, a5, a6, a7⟩ := Xq)
          | (go_at_call 101; with_reducible refine (HNM.out _).mono ?_; rintro e wn ⟨rfl, hbn⟩; rw [HV.out]; have X := X.below hbn zl; have hcur := hcur.trans (hbn.mono (Nat.le_of_lt zl)); have zl := Nat.lt_of_lt_of_le zl hbn.size; have Xq := X; obtain ⟨a0, a1, a2, a3, a4, a5, a6, a7⟩ := Xq)
          | (go_at_call 267; with_reducible refine (specIsD_u d B _ (hd.below (hcur.mono hB)) (Nat.le_trans hB hcur.size) hsz).mono ?_; rintro e wn ⟨rfl, hbn⟩; rw [HDV.out]; have X := X.below hbn zl; have hcur := hcur.trans (hbn.mono (Nat.le_of_lt zl)); have zl := Nat.lt_of_lt_of_le zl hbn.size; have Xq := X; obtain ⟨a0, a1, a2, a3, a4, a5, a6, a7⟩ := Xq)
          | (go_at_call 43; with_reducible refine (l1In_any _ _ _ _).mono ?_; rintro e wn ⟨rfl, hwn⟩; obtain rfl := hwn; rw [HI1.out])
          | (go_at_call 43; with_reducible refine (l1In_any _ _ _ _).mono ?_; rintro e wn ⟨rfl, hwn⟩; obtain rfl := hwn; rw [HI2.out]))
        go_ret
        exact ⟨by first | exact ret_bool HS.out.symm | exact ret_bool (by rw [HS.out]; simp; omega), by first | exact hcur | exact hcur.drew⟩
      · cases q1 : ((d.a.s.length : Int) == 0)
        · have hS : d.a.shape d.l.length = false := by simp [Ko.shape, kKind, Ko.isVar, hk, qz, qn, q0, q1]
          have HS := Lib.hid hS
          clear hS
          have H_hk := Lib.hid hk
          have H_qz := Lib.hid qz
          have H_qn := Lib.hid qn
          have H_q0 := Lib.hid q0
          have H_q1 := Lib.hid q1
          have H_qn2 := Lib.hid qn2
          clear hk qz qn q0 q1 qn2
          go_enter Tryz.func237, Tryz.ntmps237
          go_upto_region 1 with fail
          rw [← hW]
          clear hW
          have hk := H_hk.out
          have qz := H_qz.out
          have qn := H_qn.out
          have q0 := H_q0.out
          have q1 := H_q1.out
          have qn2 := H_qn2.out
          go_wp2_with (first
            | (go_at_call 266; with_reducible refine (eqz_any d B _ (hd.below (hcur.mono hB)) (Nat.le_trans hB hcur.size)).mono ?_; rintro e wn ⟨rfl, hbn⟩; rw [HDZ.out]; have X := X.below hbn zl; have hcur := hcur.trans (hbn.mono (Nat.le_of_lt zl)); have zl := Nat.lt_of_lt_of_le zl hbn.size; have Xq := X; obtain ⟨a0, a1, a2, a3, a4, a5, a6, a7⟩ := Xq)
            | (go_at_call 101; with_reducible refine (HNM.out _).mono ?_; rintro e wn ⟨rfl, hbn⟩; rw [HV.out]; have X := X.below hbn zl; have hcur := hcur.trans (hbn.mono (Nat.le_of_lt zl)); have zl := Nat.lt_of_lt_of_le zl hbn.size; have Xq := X; obtain ⟨a0, a1, a2, a3, a4, a5, a6, a7⟩ := Xq)
            | (go_at_call 267; with_reducible refine (specIsD_u d B _ (hd.below (hcur.mono hB)) (Nat.le_trans hB hcur.size) hsz).mono ?_; rintro e wn ⟨rfl, hbn⟩; rw [HDV.out]; have X := X.below hbn zl; have hcur := hcur.trans (hbn.mono (Nat.le_of_lt zl)); have zl := Nat.lt_of_lt_of_le zl hbn.size; have Xq := X; obtain ⟨a0, a1, a2, a3, a4, a5, a6, a7⟩ := Xq)
            | (go_at_call 43; with_reducible refine (l1In_any _ _ _ _).mono ?_; rintro e wn ⟨rfl, hwn⟩; obtain rfl := hwn; rw [HI1.out])
            | (go_at_call 43; with_reducible refine (l1In_any _ _ _ _).mono ?_; rintro e wn ⟨rfl, hwn⟩; obtain rfl := hwn; rw [HI2.out]))
          go_ret
          exact ⟨by first | exact ret_bool HS.out.symm | exact ret_bool (by rw [HS.out]; simp; omega), by first | exact hcur | exact hcur.drew⟩
        · have hS : d.a.shape d.l.length = true := by simp [Ko.shape, kKind, Ko.isVar, hk, qz, qn, q0, q1]
          have HS := Lib.hid hS
          clear hS
          have H_hk := Lib.hid hk
          have H_qz := Lib.hid qz
          have H_qn := Lib.hid qn
          have H_q0 := Lib.hid q0
          have H_q1 := Lib.hid q1
          have H_qn2 := Lib.hid qn2
          clear hk qz qn q0 q1 qn2
          go_enter Tryz.func237, Tryz.ntmps237
          go_upto_region 1 with fail
          rw [← hW]
          clear hW
          have hk := H_hk.out
          have qz := H_qz.out
          have qn := H_qn.out
          have q0 := H_q0.out
          have q1 := H_q1.out
          have qn2 := H_qn2.out
          go_wp2_with (first
            | (go_at_call 266; with_reducible refine (eqz_any d B _ (hd.below (hcur.mono hB)) (Nat.le_trans hB hcur.size)).mono ?_; rintro e wn ⟨rfl, hbn⟩; rw [HDZ.out]; have X := X.below hbn zl; have hcur := hcur.trans (hbn.mono (Nat.le_of_lt zl)); have zl := Nat.lt_of_lt_of_le zl hbn.size; have Xq := X; obtain ⟨a0, a1, a2, a3, a4, a5, a6, a7⟩ := Xq)
            | (go_at_call 101; with_reducible refine (HNM.out _).mono ?_; rintro e wn ⟨rfl, hbn⟩; rw [HV.out]; have X := X.below hbn zl; have hcur := hcur.trans (hbn.mono (Nat.le_of_lt zl)); have zl := Nat.lt_of_lt_of_le zl hbn.size; have Xq := X; obtain ⟨a0, a1, a2, a3, a4, a5, a6, a7⟩ := Xq)
            | (go_at_call 267; with_reducible refine (specIsD_u d B _ (hd.below (hcur.mono hB)) (Nat.le_trans hB hcur.size) hsz).mono ?_; rintro e wn ⟨rfl, hbn⟩; rw [HDV.out]; have X := X.below hbn zl; have hcur := hcur.trans (hbn.mono (Nat.le_of_lt zl)); have zl := Nat.lt_of_lt_of_le zl hbn.size; have Xq := X; obtain ⟨a0, a1, a2, a3, a4, a5, a6, a7⟩ := Xq)
            | (go_at_call 43; with_reducible refine (l1In_any _ _ _ _).mono ?_; rintro e wn ⟨rfl, hwn⟩; obtain rfl := hwn; rw [HI1.out])
            | (go_at_call 43; with_reducible refine (l1In_any _ _ _ _).mono ?_; rintro e wn ⟨rfl, hwn⟩; obtain rfl := hwn; rw [HI2.out]))
          go_ret
          exact ⟨by first | exact ret_bool HS.out.symm | exact ret_bool (by rw [HS.out]; simp; omega), by first | exact hcur | exact hcur.drew⟩
    · have qn2 : (d.a.n != 0) = false := by unfold bne; rw [qn]; rfl
      cases q0 : ((d.l.length : Int) == 0)
      · have hS : d.a.shape d.l.length = false := by simp [Ko.shape, kKind, Ko.isVar, hk, qz, qn, q0]
        have HS := Lib.hid hS
        clear hS
        have H_hk := Lib.hid hk
        have H_qz := Lib.hid qz
        have H_qn := Lib.hid qn
        have H_q0 := Lib.hid q0
        have H_qn2 := Lib.hid qn2
        clear hk qz qn q0 qn2
        go_enter Tryz.func237, Tryz.ntmps237
        go_upto_region 1 with fail
        rw [← hW]
        clear hW
        have hk := H_hk.out
        have qz := H_qz.out
        have qn := H_qn.out
        have q0 := H_q0.out
        have qn2 := H_qn2.out
        go_wp2_with (first
          | (go_at_call 266; with_reducible refine (eqz_any d B _ (hd.below (hcur.mono hB)) (Nat.le_trans hB hcur.size)).mono ?_; rintro e wn ⟨rfl, hbn⟩; rw [HDZ.out]; have X := X.below hbn zl; have hcur := hcur.trans (hbn.mono (Nat.le_of_lt zl)); have zl := Nat.lt_of_lt_of_le zl hbn.size; have Xq := X; obtain ⟨a0, a1, a2, a3, a4, a5, a6, a7⟩ := Xq)
          | (go_at_call 101; with_reducible refine (HNM.out _).mono ?_; rintro e wn ⟨rfl, hbn⟩; rw [HV.out]; have X := X.below hbn zl; have hcur := hcur.trans (hbn.mono (Nat.le_of_lt zl)); have zl := Nat.lt_of_lt_of_le zl hbn.size; have Xq := X; obtain ⟨a0, a1, a2, a3, a4, a5, a6, a7⟩ := Xq)
          | (go_at_call 267; with_reducible refine (specIsD_u d B _ (hd.below (hcur.mono hB)) (Nat.le_trans hB hcur.size) hsz).mono ?_; rintro e wn ⟨rfl, hbn⟩; rw [HDV.out]; have X := X.below hbn zl; have hcur := hcur.trans (hbn.mono (Nat.le_of_lt zl)); have zl := Nat.lt_of_lt_of_le zl hbn.size; have Xq := X; obtain ⟨a0, a1, a2, a3, a4, a5, a6, a7⟩ := Xq)
          | (go_at_call 43; with_reducible refine (l1In_any _ _ _ _).mono ?_; rintro e wn ⟨rfl, hwn⟩; obtain rfl := hwn; rw [HI1.out])
          | (go_at_call 43; with_reducible refine (l1In_any _ _ _ _).mono ?_; rintro e wn ⟨rfl, hwn⟩; obtain rfl := hwn; rw [HI2.out]))
        go_ret
        exact ⟨by first | exact ret_bool HS.out.symm | exact ret_bool (by rw [HS.out]; simp; omega), by first | exact hcur | exact hcur.drew⟩
      · cases q1 : ((d.a.s.length : Int) == 0)
        · have hS : d.a.shape d.l.length = false := by simp [Ko.shape, kKind, Ko.isVar, hk, qz, qn, q0, q1]
          have HS := Lib.hid hS
          clear hS
          have H_hk := Lib.hid hk
          have H_qz := Lib.hid qz
          have H_qn := Lib.hid qn
          have H_q0 := Lib.hid q0
          have H_q1 := Lib.hid q1
          have H_qn2 := Lib.hid qn2
          clear hk qz qn q0 q1 qn2
          go_enter Tryz.func237, Tryz.ntmps237
          go_upto_region 1 with fail
          rw [← hW]
          clear hW
          have hk := H_hk.out
          have qz := H_qz.out
          have qn := H_qn.out
          have q0 := H_q0.out
          have q1 := H_q1.out
          have qn2 := H_qn2.out
          go_wp2_with (first
            | (go_at_call 266; with_reducible refine (eqz_any d B _ (hd.below (hcur.mono hB)) (Nat.le_trans hB hcur.size)).mono ?_; rintro e wn ⟨rfl, hbn⟩; rw [HDZ.out]; have X := X.below hbn zl; have hcur := hcur.trans (hbn.mono (Nat.le_of_lt zl)); have zl := Nat.lt_of_lt_of_le zl hbn.size; have Xq := X; obtain ⟨a0, a1, a2, a3, a4, a5, a6, a7⟩ := Xq)
            | (go_at_call 101; with_reducible refine (HNM.out _).mono ?_; rintro e wn ⟨rfl, hbn⟩; rw [HV.out]; have X := X.below hbn zl; have hcur := hcur.trans (hbn.mono (Nat.le_of_lt zl)); have zl := Nat.lt_of_lt_of_le zl hbn.size; have Xq := X; obtain ⟨a0, a1, a2, a3, a4, a5, a6, a7⟩ := Xq)
            | (go_at_call 267; with_reducible refine (specIsD_u d B _ (hd.below (hcur.mono hB)) (Nat.le_trans hB hcur.size) hsz).mono ?_; rintro e wn ⟨rfl, hbn⟩; rw [HDV.out]; have X := X.below hbn zl; have hcur := hcur.trans (hbn.mono (Nat.le_of_lt zl)); have zl := Nat.lt_of_lt_of_le zl hbn.size; have Xq := X; obtain ⟨a0, a1, a2, a3, a4, a5, a6, a7⟩ := Xq)
            | (go_at_call 43; with_reducible refine (l1In_any _ _ _ _).mono ?_; rintro e wn ⟨rfl, hwn⟩; obtain rfl := hwn; rw [HI1.out])
            | (go_at_call 43; with_reducible refine (l1In_any _ _ _ _).mono ?_; rintro e wn ⟨rfl, hwn⟩; obtain rfl := hwn; rw [HI2.out]))
          go_ret
          exact ⟨by first | exact ret_bool HS.out.symm | exact ret_bool (by rw [HS.out]; simp; omega), by first | exact hcur | exact hcur.drew⟩
        · have hS : d.a.shape d.l.length = true := by simp [Ko.shape, kKind, Ko.isVar, hk, qz, qn, q0, q1]
          have HS := Lib.hid hS
          clear hS
          have H_hk := Lib.hid hk
          have H_qz := Lib.hid qz
          have H_qn := Lib.hid qn
          have H_q0 := Lib.hid q0
          have H_q1 := Lib.hid q1
          have H_qn2 := Lib.hid qn2
          clear hk qz qn q0 q1 qn2
          go_enter Tryz.func237, Tryz.ntmps237
          go_upto_region 1 with fail
          rw [← hW]
          clear hW
          have hk := H_hk.out
          have qz := H_qz.out
          have qn := H_qn.out
          have q0 := H_q0.out
          have q1 := H_q1.out
          have qn2 := H_qn2.out
          go_wp2_with (first
            | (go_at_call 266; with_reducible refine (eqz_any d B _ (hd.below (hcur.mono hB)) (Nat.le_trans hB hcur.size)).mono ?_; rintro e wn ⟨rfl, hbn⟩; rw [HDZ.out]; have X := X.below hbn zl; have hcur := hcur.trans (hbn.mono (Nat.le_of_lt zl)); have zl := Nat.lt_of_lt_of_le zl hbn.size; have Xq := X; obtain ⟨a0, a1, a2, a3, a4, a5, a6, a7⟩ := Xq)
            | (go_at_call 101; with_reducible refine (HNM.out _).mono ?_; rintro e wn ⟨rfl, hbn⟩; rw [HV.out]; have X := X.below hbn zl; have hcur := hcur.trans (hbn.mono (Nat.le_of_lt zl)); have zl := Nat.lt_of_lt_of_le zl hbn.size; have Xq := X; obtain ⟨a0, a1, a2, a3, a4, a5, a6, a7⟩ := Xq)
            | (go_at_call 267; with_reducible refine (specIsD_u d B _ (hd.below (hcur.mono hB)) (Nat.le_trans hB hcur.size) hsz).mono ?_; rintro e wn ⟨rfl, hbn⟩; rw [HDV.out]; have X := X.below hbn zl; have hcur := hcur.trans (hbn.mono (Nat.le_of_lt zl)); have zl := Nat.lt_of_lt_of_le zl hbn.size; have Xq := X; obtain ⟨a0, a1, a2, a3, a4, a5, a6, a7⟩ := Xq)
            | (go_at_call 43; with_reducible refine (l1In_any _ _ _ _).mono ?_; rintro e wn ⟨rfl, hwn⟩; obtain rfl := hwn; rw [HI1.out])
            | (go_at_call 43; with_reducible refine (l1In_any _ _ _ _).mono ?_; rintro e wn ⟨rfl, hwn⟩; obtain rfl := hwn; rw [HI2.out]))
          go_ret
          exact ⟨by first | exact ret_bool HS.out.symm | exact ret_bool (by rw [HS.out]; simp; omega), by first | exact hcur | exact hcur.drew⟩
set_option maxRecDepth 100000 in
set_option maxHeartbeats 600000 in
theorem shape4_any (d : Tr Ko) (B : Nat) (w : World) (hin : Ko.E.In w B d) (hB : B ≤ w.heap.size) (hsz : d.a.d.size ≤ 2000000) (hk : d.a.k = 4) : Calls Tryz.prog 237 #[Ko.val d] w fun e w' => e = .returned (.bool (d.a.shape d.l.length)) ∧ Below w.heap.size w w' := by
  have hd := (Ko.E_in hin).1.d
  obtain ⟨W, hW⟩ : ∃ W, W = w.alloc (.cells #[.int .i64 d.a.k, .int .i64 d.a.n, .slice d.a.sA d.a.s.length d.a.sC, .int .i64 d.a.d.k, .int .i64 d.a.d.n, .string d.a.d.t, .slice d.a.d.A d.a.d.l.length d.a.d.c, .slice d.A d.l.length d.c] 35) := ⟨_, rfl⟩
  have zW : W.heap.size = w.heap.size + 1 := by rw [hW]; simp
  have zl : w.heap.size < W.heap.size := by omega
  have hcur : Below w.heap.size w W := by rw [hW]; exact (Below.refl _ _).alloc (Nat.le_refl _) _
  have X : Ko.Box W w.heap.size d := by rw [hW]; exact Ko.Box.new _ _ _
  clear zW
  have HV : Hid (d.a.isVar = true) := by show _ = _; unfold Ko.isVar; rw [hk]; rfl
  have HNM : Hid (∀ w' : World, Calls Tryz.prog 101 #[.agg #[.int .i64 4, .int .i64 d.a.n, .slice d.a.sA d.a.s.length d.a.sC, .int .i64 d.a.d.k, .int .i64 d.a.d.n, .string d.a.d.t, .slice d.a.d.A d.a.d.l.length d.a.d.c, .slice d.A d.l.length d.c]] w' fun e w'' => e = .returned (.bool d.a.isVar) ∧ Below w'.heap.size w' w'') := fun w' => by
    have h := specNames_u d w'
    rwa [hk] at h
  unfold Ko.val
  have Xq := X
  obtain ⟨a0, a1, a2, a3, a4, a5, a6, a7⟩ := Xq
  cases qz : d.a.dz
  · have HDZ : Hid (D.eqB d.a.d zeroD = false) := qz
    have hS : d.a.shape d.l.length = false := by simp [Ko.shape, kKind, Ko.isVar, hk, qz]
    have HS := Lib.hid hS
    clear hS
    have H_hk := Lib.hid hk
    have H_qz := Lib.hid qz
    clear hk qz
    go_enter Tryz.func237, Tryz.ntmps237
    go_upto_region 1 with fail
    rw [← hW]
    clear hW
    have hk := H_hk.out
    have qz := H_qz.out
    go_wp2_with (first
      | (go_at_call 266; with_reducible refine (eqz_any d B _ (hd.below (hcur.mono hB)) (Nat.le_trans hB hcur.size)).mono ?_; rintro e wn ⟨rfl, hbn⟩; rw [HDZ.out]; have X := X.below hbn zl; have hcur := hcur.trans (hbn.mono (Nat.le_of_lt zl)); have zl := Nat.lt_of_lt_of_le zl hbn.size; have Xq := X; obtain ⟨a0, a1, a2, a3, a4, a5, a6, a7⟩ := Xq)
      | (go_at_call 101; with_reducible refine (HNM.out _).mono ?_; rintro e wn ⟨rfl, hbn⟩; rw [HV.out]; have X := X.below hbn zl; have hcur := hcur.trans (hbn.mono (Nat.le_of_lt zl)); have zl := Nat.lt_of_lt_of_le zl hbn.size; have Xq := X; obtain ⟨a0, a1, a2, a3, a4, a5, a6, a7⟩ := Xq)
      | (go_at_call 267; with_reducible refine (specIsD_u d B _ (hd.below (hcur.mono hB)) (Nat.le_trans hB hcur.size) hsz).mono ?_; rintro e wn ⟨rfl, hbn⟩; rw [HDV.out]; have X := X.below hbn zl; have hcur := hcur.trans (hbn.mono (Nat.le_of_lt zl)); have zl := Nat.lt_of_lt_of_le zl hbn.size; have Xq := X; obtain ⟨a0, a1, a2, a3, a4, a5, a6, a7⟩ := Xq)
      | (go_at_call 43; with_reducible refine (l1In_any _ _ _ _).mono ?_; rintro e wn ⟨rfl, hwn⟩; obtain rfl := hwn; rw [HI1.out])
      | (go_at_call 43; with_reducible refine (l1In_any _ _ _ _).mono ?_; rintro e wn ⟨rfl, hwn⟩; obtain rfl := hwn; rw [HI2.out]))
    go_ret
    exact ⟨by first | exact ret_bool HS.out.symm | exact ret_bool (by rw [HS.out]; simp; omega), by first | exact hcur | exact hcur.drew⟩
  · have HDZ : Hid (D.eqB d.a.d zeroD = true) := qz
    cases qn : (d.a.n == 0)
    · have qn2 : (d.a.n != 0) = true := by unfold bne; rw [qn]; rfl
      cases q0 : ((d.l.length : Int) == 1)
      · have hS : d.a.shape d.l.length = false := by simp [Ko.shape, kKind, Ko.isVar, hk, qz, qn, q0]
        have HS := Lib.hid hS
        clear hS
        have H_hk := Lib.hid hk
        have H_qz := Lib.hid qz
        have H_qn := Lib.hid qn
        have H_q0 := Lib.hid q0
        have H_qn2 := Lib.hid qn2
        clear hk qz qn q0 qn2
        go_enter Tryz.func237, Tryz.ntmps237
        go_upto_region 1 with fail
        rw [← hW]
        clear hW
        have hk := H_hk.out
        have qz := H_qz.out
        have qn := H_qn.out
        have q0 := H_q0.out
        have qn2 := H_qn2.out
        go_wp2_with (first
          | (go_at_call 266; with_reducible refine (eqz_any d B _ (hd.below (hcur.mono hB)) (Nat.le_trans hB hcur.size)).mono ?_; rintro e wn ⟨rfl, hbn⟩; rw [HDZ.out]; have X := X.below hbn zl; have hcur := hcur.trans (hbn.mono (Nat.le_of_lt zl)); have zl := Nat.lt_of_lt_of_le zl hbn.size; have Xq := X; obtain ⟨a0, a1, a2, a3, a4, a5, a6, a7⟩ := Xq)
          | (go_at_call 101; with_reducible refine (HNM.out _).mono ?_; rintro e wn ⟨rfl, hbn⟩; rw [HV.out]; have X := X.below hbn zl; have hcur := hcur.trans (hbn.mono (Nat.le_of_lt zl)); have zl := Nat.lt_of_lt_of_le zl hbn.size; have Xq := X; obtain ⟨a0, a1, a2, a3, a4, a5, a6, a7⟩ := Xq)
          | (go_at_call 267; with_reducible refine (specIsD_u d B _ (hd.below (hcur.mono hB)) (Nat.le_trans hB hcur.size) hsz).mono ?_; rintro e wn ⟨rfl, hbn⟩; rw [HDV.out]; have X := X.below hbn zl; have hcur := hcur.trans (hbn.mono (Nat.le_of_lt zl)); have zl := Nat.lt_of_lt_of_le zl hbn.size; have Xq := X; obtain ⟨a0, a1, a2, a3, a4, a5, a6, a7⟩ := Xq)
          | (go_at_call 43; with_reducible refine (l1In_any _ _ _ _).mono ?_; rintro e wn ⟨rfl, hwn⟩; obtain rfl := hwn; rw [HI1.out])
          | (go_at_call 43; with_reducible refine (l1In_any _ _ _ _).mono ?_; rintro e wn ⟨rfl, hwn⟩; obtain rfl := hwn; rw [HI2.out]))
        go_ret
        exact ⟨by first | exact ret_bool HS.out.symm | exact ret_bool (by rw [HS.out]; simp; omega), by first | exact hcur | exact hcur.drew⟩
      · cases q1 : ((d.a.s.length : Int) == 0)
        · have hS : d.a.shape d.l.length = false := by simp [Ko.shape, kKind, Ko.isVar, hk, qz, qn, q0, q1]
          have HS := Lib.hid hS
          clear hS
          have H_hk := Lib.hid hk
          have H_qz := Lib.hid qz
          have H_qn := Lib.hid qn
          have H_q0 := Lib.hid q0
          have H_q1 := Lib.hid q1
          have H_qn2 := Lib.hid qn2
          clear hk qz qn q0 q1 qn2
          go_enter Tryz.func237, Tryz.ntmps237
          go_upto_region 1 with fail
          rw [← hW]
          clear hW
          have hk := H_hk.out
          have qz := H_qz.out
          have qn := H_qn.out
          have q0 := H_q0.out
          have q1 := H_q1.out
          have qn2 := H_qn2.out
          go_wp2_with (first
            | (go_at_call 266; with_reducible refine (eqz_any d B _ (hd.below (hcur.mono hB)) (Nat.le_trans hB hcur.size)).mono ?_; rintro e wn ⟨rfl, hbn⟩; rw [HDZ.out]; have X := X.below hbn zl; have hcur := hcur.trans (hbn.mono (Nat.le_of_lt zl)); have zl := Nat.lt_of_lt_of_le zl hbn.size; have Xq := X; obtain ⟨a0, a1, a2, a3, a4, a5, a6, a7⟩ := Xq)
            | (go_at_call 101; with_reducible refine (HNM.out _).mono ?_; rintro e wn ⟨rfl, hbn⟩; rw [HV.out]; have X := X.below hbn zl; have hcur := hcur.trans (hbn.mono (Nat.le_of_lt zl)); have zl := Nat.lt_of_lt_of_le zl hbn.size; have Xq := X; obtain ⟨a0, a1, a2, a3, a4, a5, a6, a7⟩ := Xq)
            | (go_at_call 267; with_reducible refine (specIsD_u d B _ (hd.below (hcur.mono hB)) (Nat.le_trans hB hcur.size) hsz).mono ?_; rintro e wn ⟨rfl, hbn⟩; rw [HDV.out]; have X := X.below hbn zl; have hcur := hcur.trans (hbn.mono (Nat.le_of_lt zl)); have zl := Nat.lt_of_lt_of_le zl hbn.size; have Xq := X; obtain ⟨a0, a1, a2, a3, a4, a5, a6, a7⟩ := Xq)
            | (go_at_call 43; with_reducible refine (l1In_any _ _ _ _).mono ?_; rintro e wn ⟨rfl, hwn⟩; obtain rfl := hwn; rw [HI1.out])
            | (go_at_call 43; with_reducible refine (l1In_any _ _ _ _).mono ?_; rintro e wn ⟨rfl, hwn⟩; obtain rfl := hwn; rw [HI2.out]))
          go_ret
          exact ⟨by first | exact ret_bool HS.out.symm | exact ret_bool (by rw [HS.out]; simp; omega), by first | exact hcur | exact hcur.drew⟩
        · have hS : d.a.shape d.l.length = true := by simp [Ko.shape, kKind, Ko.isVar, hk, qz, qn, q0, q1]
          have HS := Lib.hid hS
          clear hS
          have H_hk := Lib.hid hk
          have H_qz := Lib.hid qz
          have H_qn := Lib.hid qn
          have H_q0 := Lib.hid q0
          have H_q1 := Lib.hid q1
          have H_qn2 := Lib.hid qn2
          clear hk qz qn q0 q1 qn2
          go_enter Tryz.func237, Tryz.ntmps237
          go_upto_region 1 with fail
          rw [← hW]
          clear hW
          have hk := H_hk.out
          have qz := H_qz.out
          have qn := H_qn.out
          have q0 := H_q0.out
          have q1 := H_q1.out
          have qn2 := H_qn2.out
          go_wp2_with (first
            | (go_at_call 266; with_reducible refine (eqz_any d B _ (hd.below (hcur.mono hB)) (Nat.le_trans hB hcur.size)).mono ?_; rintro e wn ⟨rfl, hbn⟩; rw [HDZ.out]; have X := X.below hbn zl; have hcur := hcur.trans (hbn.mono (Nat.le_of_lt zl)); have zl := Nat.lt_of_lt_of_le zl hbn.size; have Xq := X; obtain ⟨a0, a1, a2, a3, a4, a5, a6, a7⟩ := Xq)
            | (go_at_call 101; with_reducible refine (HNM.out _).mono ?_; rintro e wn ⟨rfl, hbn⟩; rw [HV.out]; have X := X.below hbn zl; have hcur := hcur.trans (hbn.mono (Nat.le_of_lt zl)); have zl := Nat.lt_of_lt_of_le zl hbn.size; have Xq := X; obtain ⟨a0, a1, a2, a3, a4, a5, a6, a7⟩ := Xq)
            | (go_at_call 267; with_reducible refine (specIsD_u d B _ (hd.below (hcur.mono hB)) (Nat.le_trans hB hcur.size) hsz).mono ?_; rintro e wn ⟨rfl, hbn⟩; rw [HDV.out]; have X := X.below hbn zl; have hcur := hcur.trans (hbn.mono (Nat.le_of_lt zl)); have zl := Nat.lt_of_lt_of_le zl hbn.size; have Xq := X; obtain ⟨a0, a1, a2, a3, a4, a5, a6, a7⟩ := Xq)
            | (go_at_call 43; with_reducible refine (l1In_any _ _ _ _).mono ?_; rintro e wn ⟨rfl, hwn⟩; obtain rfl := hwn; rw [HI1.out])
            | (go_at_call 43; with_reducible refine (l1In_any _ _ _ _).mono ?_; rintro e wn ⟨rfl, hwn⟩; obtain rfl := hwn; rw [HI2.out]))
          go_ret
          exact ⟨by first | exact ret_bool HS.out.symm | exact ret_bool (by rw [HS.out]; simp; omega), by first | exact hcur | exact hcur.drew⟩
    · have qn2 : (d.a.n != 0) = false := by unfold bne; rw [qn]; rfl
      cases q0 : ((d.l.length : Int) == 1)
      · have hS : d.a.shape d.l.length = false := by simp [Ko.shape, kKind, Ko.isVar, hk, qz, qn, q0]
        have HS := Lib.hid hS
        clear hS
        have H_hk := Lib.hid hk
        have H_qz := Lib.hid qz
        have H_qn := Lib.hid qn
        have H_q0 := Lib.hid q0
        have H_qn2 := Lib.hid qn2
        clear hk qz qn q0 qn2
        go_enter Tryz.func237, Tryz.ntmps237
        go_upto_region 1 with fail
        rw [← hW]
        clear hW
        have hk := H_hk.out
        have qz := H_qz.out
        have qn := H_qn.out
        have q0 := H_q0.out
        have qn2 := H_qn2.out
        go_wp2_with (first
          | (go_at_call 266; with_reducible refine (eqz_any d B _ (hd.below (hcur.mono hB)) (Nat.le_trans hB hcur.size)).mono ?_; rintro e wn ⟨rfl, hbn⟩; rw [HDZ.out]; have X := X.below hbn zl; have hcur := hcur.trans (hbn.mono (Nat.le_of_lt zl)); have zl := Nat.lt_of_lt_of_le zl hbn.size; have Xq := X; obtain ⟨a0, a1, a2, a3, a4, a5, a6, a7⟩ := Xq)
          | (go_at_call 101; with_reducible refine (HNM.out _).mono ?_; rintro e wn ⟨rfl, hbn⟩; rw [HV.out]; have X := X.below hbn zl; have hcur := hcur.trans (hbn.mono (Nat.le_of_lt zl)); have zl := Nat.lt_of_lt_of_le zl hbn.size; have Xq := X; obtain ⟨a0, a1, a2, a3, a4, a5, a6, a7⟩ := Xq)
          | (go_at_call 267; with_reducible refine (specIsD_u d B _ (hd.below (hcur.mono hB)) (Nat.le_trans hB hcur.size) hsz).mono ?_; rintro e wn ⟨rfl, hbn⟩; rw [HDV.out]; have X := X.below hbn zl; have hcur := hcur.trans (hbn.mono (Nat.le_of_lt zl)); have zl := Nat.lt_of_lt_of_le zl hbn.size; have Xq := X; obtain ⟨a0, a1, a2, a3, a4, a5, a6, a7⟩ := Xq)
          | (go_at_call 43; with_reducible refine (l1In_any _ _ _ _).mono ?_; rintro e wn ⟨rfl, hwn⟩; obtain rfl := hwn; rw [HI1.out])
          | (go_at_call 43; with_reducible refine (l1In_any _ _ _ _).mono ?_; rintro e wn ⟨rfl, hwn⟩; obtain rfl := hwn; rw [HI2.out]))
        go_ret
        exact ⟨by first | exact ret_bool HS.out.symm | exact ret_bool (by rw [HS.out]; simp; omega), by first | exact hcur | exact hcur.drew⟩
      · cases q1 : ((d.a.s.length : Int) == 0)
        · have hS : d.a.shape d.l.length = false := by simp [Ko.shape, kKind, Ko.isVar, hk, qz, qn, q0, q1]
          have HS := Lib.hid hS
          clear hS
          have H_hk := Lib.hid hk
          have H_qz := Lib.hid qz
          have H_qn := Lib.hid qn
          have H_q0 := Lib.hid q0
          have H_q1 := Lib.hid q1
          have H_qn2 := Lib.hid qn2
          clear hk qz qn q0 q1 qn2
          go_enter Tryz.func237, Tryz.ntmps237
          go_upto_region 1 with fail
          rw [← hW]
          clear hW
          have hk := H_hk.out
          have qz := H_qz.out
          have qn := H_qn.out
          have q0 := H_q0.out
          have q1 := H_q1.out
          have qn2 := H_qn2.out
          go_wp2_with (first
            | (go_at_call 266; with_reducible refine (eqz_any d B _ (hd.below (hcur.mono hB)) (Nat.le_trans hB hcur.size)).mono ?_; rintro e wn ⟨rfl, hbn⟩; rw [HDZ.out]; have X := X.below hbn zl; have hcur := hcur.trans (hbn.mono (Nat.le_of_lt zl)); have zl := Nat.lt_of_lt_of_le zl hbn.size; have Xq := X; obtain ⟨a0, a1, a2, a3, a4, a5, a6, a7⟩ := Xq)
            | (go_at_call 101; with_reducible refine (HNM.out _).mono ?_; rintro e wn ⟨rfl, hbn⟩; rw [HV.out]; have X := X.below hbn zl; have hcur := hcur.trans (hbn.mono (Nat.le_of_lt zl)); have zl := Nat.lt_of_lt_of_le zl hbn.size; have Xq := X; obtain ⟨a0, a1, a2, a3, a4, a5, a6, a7⟩ := Xq)
            | (go_at_call 267; with_reducible refine (specIsD_u d B _ (hd.below (hcur.mono hB)) (Nat.le_trans hB hcur.size) hsz).mono ?_; rintro e wn ⟨rfl, hbn⟩; rw [HDV.out]; have X := X.below hbn zl; have hcur := hcur.trans (hbn.mono (Nat.le_of_lt zl)); have zl := Nat.lt_of_lt_of_le zl hbn.size; have Xq := X; obtain ⟨a0, a1, a2, a3, a4, a5, a6, a7⟩ := Xq)
            | (go_at_call 43; with_reducible refine (l1In_any _ _ _ _).mono ?_; rintro e wn ⟨rfl, hwn⟩; obtain rfl := hwn; rw [HI1.out])
            | (go_at_call 43; with_reducible refine (l1In_any _ _ _ _).mono ?_; rintro e wn ⟨rfl, hwn⟩; obtain rfl := hwn; rw [HI2.out]))
          go_ret
          exact ⟨by first | exact ret_bool HS.out.symm | exact ret_bool (by rw [HS.out]; simp; omega), by first | exact hcur | exact hcur.drew⟩
        · have hS : d.a.shape d.l.length = true := by simp [Ko.shape, kKind, Ko.isVar, hk, qz, qn, q0, q1]
          have HS := Lib.hid hS
          clear hS
          have H_hk := Lib.hid hk
          have H_qz := Lib.hid qz
          have H_qn := Lib.hid qn
          have H_q0 := Lib.hid q0
          have H_q1 := Lib.hid q1
          have H_qn2 := Lib.hid qn2
          clear hk qz qn q0 q1 qn2
          go_enter Tryz.func237, Tryz.ntmps237
          go_upto_region 1 with fail
          rw [← hW]
          clear hW
          have hk := H_hk.out
          have qz := H_qz.out
          have qn := H_qn.out
          have q0 := H_q0.out
          have q1 := H_q1.out
          have qn2 := H_qn2.out
          go_wp2_with (first
            | (go_at_call 266; with_reducible refine (eqz_any d B _ (hd.below (hcur.mono hB)) (Nat.le_trans hB hcur.size)).mono ?_; rintro e wn ⟨rfl, hbn⟩; rw [HDZ.out]; have X := X.below hbn zl; have hcur := hcur.trans (hbn.mono (Nat.le_of_lt zl)); have zl := Nat.lt_of_lt_of_le zl hbn.size; have Xq := X; obtain ⟨a0, a1, a2, a3, a4, a5, a6, a7⟩ := Xq)
            | (go_at_call 101; with_reducible refine (HNM.out _).mono ?_; rintro e wn ⟨rfl, hbn⟩; rw [HV.out]; have X := X.below hbn zl; have hcur := hcur.trans (hbn.mono (Nat.le_of_lt zl)); have zl := Nat.lt_of_lt_of_le zl hbn.size; have Xq := X; obtain ⟨a0, a1, a2, a3, a4, a5, a6, a7⟩ := Xq)
            | (go_at_call 267; with_reducible refine (specIsD_u d B _ (hd.below (hcur.mono hB)) (Nat.le_trans hB hcur.size) hsz).mono ?_; rintro e wn ⟨rfl, hbn⟩; rw [HDV.out]; have X := X.below hbn zl; have hcur := hcur.trans (hbn.mono (Nat.le_of_lt zl)); have zl := Nat.lt_of_lt_of_le zl hbn.size; have Xq := X; obtain ⟨a0, a1, a2, a3, a4, a5, a6, a7⟩ := Xq)
            | (go_at_call 43; with_reducible refine (l1In_any _ _ _ _).mono ?_; rintro e wn ⟨rfl, hwn⟩; obtain rfl := hwn; rw [HI1.out])
            | (go_at_call 43; with_reducible refine (l1In_any _ _ _ _).mono ?_; rintro e wn ⟨rfl, hwn⟩; obtain rfl := hwn; rw [HI2.out]))
          go_ret
          exact ⟨by first | exact ret_bool HS.out.symm | exact ret_bool (by rw [HS.out]; simp; omega), by first | exact hcur | exact hcur.drew⟩
set_option maxRecDepth 100000 in
set_option maxHeartbeats 600000 in
theorem shape5_any (d : Tr Ko) (B : Nat) (w : World) (hin : Ko.E.In w B d) (hB : B ≤ w.heap.size) (hsz : d.a.d.size ≤ 2000000) (hk : d.a.k = 5) : Calls Tryz.prog 237 #[Ko.val d] w fun e w' => e = .returned (.bool (d.a.shape d.l.length)) ∧ Below w.heap.size w w' := by
  have hd := (Ko.E_in hin).1.d
  obtain ⟨W, hW⟩ : ∃ W, W = w.alloc (.cells #[.int .i64 d.a.k, .int .i64 d.a.n, .slice d.a.sA d.a.s.length d.a.sC, .int .i64 d.a.d.k, .int .i64 d.a.d.n, .string d.a.d.t, .slice d.a.d.A d.a.d.l.length d.a.d.c, .slice d.A d.l.length d.c] 35) := ⟨_, rfl⟩
  have zW : W.heap.size = w.heap.size + 1 := by rw [hW]; simp
  have zl : w.heap.size < W.heap.size := by omega
  have hcur : Below w.heap.size w W := by rw [hW]; exact (Below.refl _ _).alloc (Nat.le_refl _) _
  have X : Ko.Box W w.heap.size d := by rw [hW]; exact Ko.Box.new _ _ _
  clear zW
  have HV : Hid (d.a.isVar = false) := by show _ = _; unfold Ko.isVar; rw [hk]; rfl
  have HNM : Hid (∀ w' : World, Calls Tryz.prog 101 #[.agg #[.int .i64 5, .int .i64 d.a.n, .slice d.a.sA d.a.s.length d.a.sC, .int .i64 d.a.d.k, .int .i64 d.a.d.n, .string d.a.d.t, .slice d.a.d.A d.a.d.l.length d.a.d.c, .slice d.A d.l.length d.c]] w' fun e w'' => e = .returned (.bool d.a.isVar) ∧ Below w'.heap.size w' w'') := fun w' => by
    have h := specNames_u d w'
    rwa [hk] at h
  unfold Ko.val
  have Xq := X
  obtain ⟨a0, a1, a2, a3, a4, a5, a6, a7⟩ := Xq
  cases qz : d.a.dz
  · have HDZ : Hid (D.eqB d.a.d zeroD = false) := qz
    have hS : d.a.shape d.l.length = false := by simp [Ko.shape, kKind, Ko.isVar, hk, qz]
    have HS := Lib.hid hS
    clear hS
    have H_hk := Lib.hid hk
    have H_qz := Lib.hid qz
    clear hk qz
    go_enter Tryz.func237, Tryz.ntmps237
    go_upto_region 1 with fail
    rw [← hW]
    clear hW
    have hk := H_hk.out
    have qz := H_qz.out
    go_wp2_with (first
      | (go_at_call 266; with_reducible refine (eqz_any d B _ (hd.below (hcur.mono hB)) (Nat.le_trans hB hcur.size)).mono ?_; rintro e wn ⟨rfl, hbn⟩; rw [HDZ.out]; have X := X.below hbn zl; have hcur := hcur.trans (hbn.mono (Nat.le_of_lt zl)); have zl := Nat.lt_of_lt_of_le zl hbn.size; have Xq := X; obtain ⟨a0, a1, a2, a3, a4, a5, a6, a7⟩ := Xq)
      | (go_at_call 101; with_reducible refine (HNM.out _).mono ?_; rintro e wn ⟨rfl, hbn⟩; rw [HV.out]; have X := X.below hbn zl; have hcur := hcur.trans (hbn.mono (Nat.le_of_lt zl)); have zl := Nat.lt_of_lt_of_le zl hbn.size; have Xq := X; obtain ⟨a0, a1, a2, a3, a4, a5, a6, a7⟩ := Xq)
      | (go_at_call 267; with_reducible refine (specIsD_u d B _ (hd.below (hcur.mono hB)) (Nat.le_trans hB hcur.size) hsz).mono ?_; rintro e wn ⟨rfl, hbn⟩; rw [HDV.out]; have X := X.below hbn zl; have hcur := hcur.trans (hbn.mono (Nat.le_of_lt zl)); have zl := Nat.lt_of_lt_of_le zl hbn.size; have Xq := X; obtain ⟨a0, a1, a2, a3, a4, a5, a6, a7⟩ := Xq)
      | (go_at_call 43; with_reducible refine (l1In_any _ _ _ _).mono ?_; rintro e wn ⟨rfl, hwn⟩; obtain rfl := hwn; rw [HI1.out])
      | (go_at_call 43; with_reducible refine (l1In_any _ _ _ _).mono ?_; rintro e wn ⟨rfl, hwn⟩; obtain rfl := hwn; rw [HI2.out]))
    go_ret
    exact ⟨by first | exact ret_bool HS.out.symm | exact ret_bool (by rw [HS.out]; simp; omega), by first | exact hcur | exact hcur.drew⟩
  · have HDZ : Hid (D.eqB d.a.d zeroD = true) := qz
    cases qn : (d.a.n == 0)
    · have qn2 : (d.a.n != 0) = true := by unfold bne; rw [qn]; rfl
      have hS : d.a.shape d.l.length = false := by simp [Ko.shape, kKind, Ko.isVar, hk, qz, qn]
      have HS := Lib.hid hS
      clear hS
      have H_hk := Lib.hid hk
      have H_qz := Lib.hid qz
      have H_qn := Lib.hid qn
      have H_qn2 := Lib.hid qn2
      clear hk qz qn qn2
      go_enter Tryz.func237, Tryz.ntmps237
      go_upto_region 1 with fail
      rw [← hW]
      clear hW
      have hk := H_hk.out
      have qz := H_qz.out
      have qn := H_qn.out
      have qn2 := H_qn2.out
      go_wp2_with (first
        | (go_at_call 266; with_reducible refine (eqz_any d B _ (hd.below (hcur.mono hB)) (Nat.le_trans hB hcur.size)).mono ?_; rintro e wn ⟨rfl, hbn⟩; rw [HDZ.out]; have X := X.below hbn zl; have hcur := hcur.trans (hbn.mono (Nat.le_of_lt zl)); have zl := Nat.lt_of_lt_of_le zl hbn.size; have Xq := X; obtain ⟨a0, a1, a2, a3, a4, a5, a6, a7⟩ := Xq)
        | (go_at_call 101; with_reducible refine (HNM.out _).mono ?_; rintro e wn ⟨rfl, hbn⟩; rw [HV.out]; have X := X.below hbn zl; have hcur := hcur.trans (hbn.mono (Nat.le_of_lt zl)); have zl := Nat.lt_of_lt_of_le zl hbn.size; have Xq := X; obtain ⟨a0, a1, a2, a3, a4, a5, a6, a7⟩ := Xq)
        | (go_at_call 267; with_reducible refine (specIsD_u d B _ (hd.below (hcur.mono hB)) (Nat.le_trans hB hcur.size) hsz).mono ?_; rintro e wn ⟨rfl, hbn⟩; rw [HDV.out]; have X := X.below hbn zl; have hcur := hcur.trans (hbn.mono (Nat.le_of_lt zl)); have zl := Nat.lt_of_lt_of_le zl hbn.size; have Xq := X; obtain ⟨a0, a1, a2, a3, a4, a5, a6, a7⟩ := Xq)
        | (go_at_call 43; with_reducible refine (l1In_any _ _ _ _).mono ?_; rintro e wn ⟨rfl, hwn⟩; obtain rfl := hwn; rw [HI1.out])
        | (go_at_call 43; with_reducible refine (l1In_any _ _ _ _).mono ?_; rintro e wn ⟨rfl, hwn⟩; obtain rfl := hwn; rw [HI2.out]))
      go_ret
      exact ⟨by first | exact ret_bool HS.out.symm | exact ret_bool (by rw [HS.out]; simp; omega), by first | exact hcur | exact hcur.drew⟩
    · have qn2 : (d.a.n != 0) = false := by unfold bne; rw [qn]; rfl
      cases q0 : ((d.l.length : Int) == 1)
      · have hS : d.a.shape d.l.length = false := by simp [Ko.shape, kKind, Ko.isVar, hk, qz, qn, q0]
        have HS := Lib.hid hS
        clear hS
        have H_hk := Lib.hid hk
        have H_qz := Lib.hid qz
        have H_qn := Lib.hid qn
        have H_q0 := Lib.hid q0
        have H_qn2 := Lib.hid qn2
        clear hk qz qn q0 qn2
        go_enter Tryz.func237, Tryz.ntmps237
        go_upto_region 1 with fail
        rw [← hW]
        clear hW
        have hk := H_hk.out
        have qz := H_qz.out
        have qn := H_qn.out
        have q0 := H_q0.out
        have qn2 := H_qn2.out
        go_wp2_with (first
          | (go_at_call 266; with_reducible refine (eqz_any d B _ (hd.below (hcur.mono hB)) (Nat.le_trans hB hcur.size)).mono ?_; rintro e wn ⟨rfl, hbn⟩; rw [HDZ.out]; have X := X.below hbn zl; have hcur := hcur.trans (hbn.mono (Nat.le_of_lt zl)); have zl := Nat.lt_of_lt_of_le zl hbn.size; have Xq := X; obtain ⟨a0, a1, a2, a3, a4, a5, a6, a7⟩ := Xq)
          | (go_at_call 101; with_reducible refine (HNM.out _).mono ?_; rintro e wn ⟨rfl, hbn⟩; rw [HV.out]; have X := X.below hbn zl; have hcur := hcur.trans (hbn.mono (Nat.le_of_lt zl)); have zl := Nat.lt_of_lt_of_le zl hbn.size; have Xq := X; obtain ⟨a0, a1, a2, a3, a4, a5, a6, a7⟩ := Xq)
          | (go_at_call 267; with_reducible refine (specIsD_u d B _ (hd.below (hcur.mono hB)) (Nat.le_trans hB hcur.size) hsz).mono ?_; rintro e wn ⟨rfl, hbn⟩; rw [HDV.out]; have X := X.below hbn zl; have hcur := hcur.trans (hbn.mono (Nat.le_of_lt zl)); have zl := Nat.lt_of_lt_of_le zl hbn.size; have Xq := X; obtain ⟨a0, a1, a2, a3, a4, a5, a6, a7⟩ := Xq)
          | (go_at_call 43; with_reducible refine (l1In_any _ _ _ _).mono ?_; rintro e wn ⟨rfl, hwn⟩; obtain rfl := hwn; rw [HI1.out])
          | (go_at_call 43; with_reducible refine (l1In_any _ _ _ _).mono ?_; rintro e wn ⟨rfl, hwn⟩; obtain rfl := hwn; rw [HI2.out]))
        go_ret
        exact ⟨by first | exact ret_bool HS.out.symm | exact ret_bool (by rw [HS.out]; simp; omega), by first | exact hcur | exact hcur.drew⟩
      · by_cases q1 : (d.a.s.length : Int) ≤ 8
        · have hS : d.a.shape d.l.length = true := by simp [Ko.shape, kKind, Ko.isVar, hk, qz, qn, q0, q1]
          have HS := Lib.hid hS
          clear hS
          have H_hk := Lib.hid hk
          have H_qz := Lib.hid qz
          have H_qn := Lib.hid qn
          have H_q0 := Lib.hid q0
          have H_q1 := Lib.hid q1
          have H_qn2 := Lib.hid qn2
          clear hk qz qn q0 q1 qn2
          go_enter Tryz.func237, Tryz.ntmps237
          go_upto_region 1 with fail
          rw [← hW]
          clear hW
          have hk := H_hk.out
          have qz := H_qz.out
          have qn := H_qn.out
          have q0 := H_q0.out
          have q1 := H_q1.out
          have qn2 := H_qn2.out
          go_wp2_with (first
            | (go_at_call 266; with_reducible refine (eqz_any d B _ (hd.below (hcur.mono hB)) (Nat.le_trans hB hcur.size)).mono ?_; rintro e wn ⟨rfl, hbn⟩; rw [HDZ.out]; have X := X.below hbn zl; have hcur := hcur.trans (hbn.mono (Nat.le_of_lt zl)); have zl := Nat.lt_of_lt_of_le zl hbn.size; have Xq := X; obtain ⟨a0, a1, a2, a3, a4, a5, a6, a7⟩ := Xq)
            | (go_at_call 101; with_reducible refine (HNM.out _).mono ?_; rintro e wn ⟨rfl, hbn⟩; rw [HV.out]; have X := X.below hbn zl; have hcur := hcur.trans (hbn.mono (Nat.le_of_lt zl)); have zl := Nat.lt_of_lt_of_le zl hbn.size; have Xq := X; obtain ⟨a0, a1, a2, a3, a4, a5, a6, a7⟩ := Xq)
            | (go_at_call 267; with_reducible refine (specIsD_u d B _ (hd.below (hcur.mono hB)) (Nat.le_trans hB hcur.size) hsz).mono ?_; rintro e wn ⟨rfl, hbn⟩; rw [HDV.out]; have X := X.below hbn zl; have hcur := hcur.trans (hbn.mono (Nat.le_of_lt zl)); have zl := Nat.lt_of_lt_of_le zl hbn.size; have Xq := X; obtain ⟨a0, a1, a2, a3, a4, a5, a6, a7⟩ := Xq)
            | (go_at_call 43; with_reducible refine (l1In_any _ _ _ _).mono ?_; rintro e wn ⟨rfl, hwn⟩; obtain rfl := hwn; rw [HI1.out])
            | (go_at_call 43; with_reducible refine (l1In_any _ _ _ _).mono ?_; rintro e wn ⟨rfl, hwn⟩; obtain rfl := hwn; rw [HI2.out]))
          go_ret
          exact ⟨by first | exact ret_bool HS.out.symm | exact ret_bool (by rw [HS.out]; simp; omega), by first | exact hcur | exact hcur.drew⟩
        · have hS : d.a.shape d.l.length = false := by simp [Ko.shape, kKind, Ko.isVar, hk, qz, qn, q0, q1]
          have HS := Lib.hid hS
          clear hS
          have H_hk := Lib.hid hk
          have H_qz := Lib.hid qz
          have H_qn := Lib.hid qn
          have H_q0 := Lib.hid q0
          have H_q1 := Lib.hid q1
          have H_qn2 := Lib.hid qn2
          clear hk qz qn q0 q1 qn2
          go_enter Tryz.func237, Tryz.ntmps237
          go_upto_region 1 with fail
          rw [← hW]
          clear hW
          have hk := H_hk.out
          have qz := H_qz.out
          have qn := H_qn.out
          have q0 := H_q0.out
          have q1 := H_q1.out
          have qn2 := H_qn2.out
          go_wp2_with (first
            | (go_at_call 266; with_reducible refine (eqz_any d B _ (hd.below (hcur.mono hB)) (Nat.le_trans hB hcur.size)).mono ?_; rintro e wn ⟨rfl, hbn⟩; rw [HDZ.out]; have X := X.below hbn zl; have hcur := hcur.trans (hbn.mono (Nat.le_of_lt zl)); have zl := Nat.lt_of_lt_of_le zl hbn.size; have Xq := X; obtain ⟨a0, a1, a2, a3, a4, a5, a6, a7⟩ := Xq)
            | (go_at_call 101; with_reducible refine (HNM.out _).mono ?_; rintro e wn ⟨rfl, hbn⟩; rw [HV.out]; have X := X.below hbn zl; have hcur := hcur.trans (hbn.mono (Nat.le_of_lt zl)); have zl := Nat.lt_of_lt_of_le zl hbn.size; have Xq := X; obtain ⟨a0, a1, a2, a3, a4, a5, a6, a7⟩ := Xq)
            | (go_at_call 267; with_reducible refine (specIsD_u d B _ (hd.below (hcur.mono hB)) (Nat.le_trans hB hcur.size) hsz).mono ?_; rintro e wn ⟨rfl, hbn⟩; rw [HDV.out]; have X := X.below hbn zl; have hcur := hcur.trans (hbn.mono (Nat.le_of_lt zl)); have zl := Nat.lt_of_lt_of_le zl hbn.size; have Xq := X; obtain ⟨a0, a1, a2, a3, a4, a5, a6, a7⟩ := Xq)
            | (go_at_call 43; with_reducible refine (l1In_any _ _ _ _).mono ?_; rintro e wn ⟨rfl, hwn⟩; obtain rfl := hwn; rw [HI1.out])
            | (go_at_call 43; with_reducible refine (l1In_any _ _ _ _).mono ?_; rintro e wn ⟨rfl, hwn⟩; obtain rfl := hwn; rw [HI2.out]))
          go_ret
          exact ⟨by first | exact ret_bool HS.out.symm | exact ret_bool (by rw [HS.out]; simp; omega), by first | exact hcur | exact hcur.drew⟩
end Go.Proofs.YtpigpncbjckbcaaGreat
namespace Go.Proofs.YtpigpncbjckbcaaGreat
open Go.RowKit
set_option maxRecDepth 100000 in
set_option maxHeartbeats 600000 in
theorem shape6_any (d : Tr Ko) (B : Nat) (w : World) (hin : Ko.E.In w B d) (hB : B ≤ w.heap.size) (hsz : d.a.d.size ≤ 2000000) (hk : d.a.k = 6) : Calls Tryz.prog 237 #[Ko.val d] w fun e w' => e = .returned (.bool (d.a.shape d.l.length)) ∧ Below w.heap.size w w' := by
  have hd := (Ko.E_in hin).1.d
  obtain ⟨W, hW⟩ : ∃ W, W = w.alloc (.cells #[.int .i64 d.a.k, .int .i64 d.a.n, .slice d.a.sA d.a.s.length d.a.sC, .int .i64 d.a.d.k, .int .i64 d.a.d.n, .string d.a.d.t, .slice d.a.d.A d.a.d.l.length d.a.d.c, .slice d.A d.l.length d.c] 35) := ⟨_, rfl⟩
  have zW : W.heap.size = w.heap.size + 1 := by rw [hW]; simp
  have zl : w.heap.size < W.heap.size := by omega
  have hcur : Below w.heap.size w W := by rw [hW]; exact (Below.refl _ _).alloc (Nat.le_refl _) _
  have X : Ko.Box W w.heap.size d := by rw [hW]; exact Ko.Box.new _ _ _
  clear zW
  have HV : Hid (d.a.isVar = false) := by show _ = _; unfold Ko.isVar; rw [hk]; rfl
  have HNM : Hid (∀ w' : World, Calls Tryz.prog 101 #[.agg #[.int .i64 6, .int .i64 d.a.n, .slice d.a.sA d.a.s.length d.a.sC, .int .i64 d.a.d.k, .int .i64 d.a.d.n, .string d.a.d.t, .slice d.a.d.A d.a.d.l.length d.a.d.c, .slice d.A d.l.length d.c]] w' fun e w'' => e = .returned (.bool d.a.isVar) ∧ Below w'.heap.size w' w'') := fun w' => by
    have h := specNames_u d w'
    rwa [hk] at h
  unfold Ko.val
  have Xq := X
  obtain ⟨a0, a1, a2, a3, a4, a5, a6, a7⟩ := Xq
  cases qz : d.a.dz
  · have HDZ : Hid (D.eqB d.a.d zeroD = false) := qz
    have hS : d.a.shape d.l.length = false := by simp [Ko.shape, kKind, Ko.isVar, hk, qz]
    have HS := Lib.hid hS
    clear hS
    have H_hk := Lib.hid hk
    have H_qz := Lib.hid qz
    clear hk qz
    go_enter Tryz.func237, Tryz.ntmps237
    go_upto_region 1 with fail
    rw [← hW]
    clear hW
    have hk := H_hk.out
    have qz := H_qz.out
    go_wp2_with (first
      | (go_at_call 266; with_reducible refine (eqz_any d B _ (hd.below (hcur.mono hB)) (Nat.le_trans hB hcur.size)).mono ?_; rintro e wn ⟨rfl, hbn⟩; rw [HDZ.out]; have X := X.below hbn zl; have hcur := hcur.trans (hbn.mono (Nat.le_of_lt zl)); have zl := Nat.lt_of_lt_of_le zl hbn.size; have Xq := X; obtain ⟨a0, a1, a2, a3, a4, a5, a6, a7⟩ := Xq)
      | (go_at_call 101; with_reducible refine (HNM.out _).mono ?_; rintro e wn ⟨rfl, hbn⟩; rw [HV.out]; have X := X.below hbn zl; have hcur := hcur.trans (hbn.mono (Nat.le_of_lt zl)); have zl := Nat.lt_of_lt_of_le zl hbn.size; have Xq := X; obtain ⟨a0, a1, a2, a3, a4, a5, a6, a7⟩ := Xq)
      | (go_at_call 267; with_reducible refine (specIsD_u d B _ (hd.below (hcur.mono hB)) (Nat.le_trans hB hcur.size) hsz).mono ?_; rintro e wn ⟨rfl, hbn⟩; rw [HDV.out]; have X := X.below hbn zl; have hcur := hcur.trans (hbn.mono (Nat.le_of_lt zl)); have zl := Nat.lt_of_lt_of_le zl hbn.size; have Xq := X; obtain ⟨a0, a1, a2, a3, a4, a5, a6, a7⟩ := Xq)
      | (go_at_call 43; with_reducible refine (l1In_any _ _ _ _).mono ?_; rintro e wn ⟨rfl, hwn⟩; obtain rfl := hwn; rw [HI1.out])
      | (go_at_call 43; with_reducible refine (l1In_any _ _ _ _).mono ?_; rintro e wn ⟨rfl, hwn⟩; obtain rfl := hwn; rw [HI2.out]))
    go_ret
    exact ⟨by first | exact ret_bool HS.out.symm | exact ret_bool (by rw [HS.out]; simp; omega), by first | exact hcur | exact hcur.drew⟩
  · have HDZ : Hid (D.eqB d.a.d zeroD = true) := qz
    cases qn : (d.a.n == 0)
    · have qn2 : (d.a.n != 0) = true := by unfold bne; rw [qn]; rfl
      have hS : d.a.shape d.l.length = false := by simp [Ko.shape, kKind, Ko.isVar, hk, qz, qn]
      have HS := Lib.hid hS
      clear hS
      have H_hk := Lib.hid hk
      have H_qz := Lib.hid qz
      have H_qn := Lib.hid qn
      have H_qn2 := Lib.hid qn2
      clear hk qz qn qn2
      go_enter Tryz.func237, Tryz.ntmps237
      go_upto_region 1 with fail
      rw [← hW]
      clear hW
      have hk := H_hk.out
      have qz := H_qz.out
      have qn := H_qn.out
      have qn2 := H_qn2.out
      go_wp2_with (first
        | (go_at_call 266; with_reducible refine (eqz_any d B _ (hd.below (hcur.mono hB)) (Nat.le_trans hB hcur.size)).mono ?_; rintro e wn ⟨rfl, hbn⟩; rw [HDZ.out]; have X := X.below hbn zl; have hcur := hcur.trans (hbn.mono (Nat.le_of_lt zl)); have zl := Nat.lt_of_lt_of_le zl hbn.size; have Xq := X; obtain ⟨a0, a1, a2, a3, a4, a5, a6, a7⟩ := Xq)
        | (go_at_call 101; with_reducible refine (HNM.out _).mono ?_; rintro e wn ⟨rfl, hbn⟩; rw [HV.out]; have X := X.below hbn zl; have hcur := hcur.trans (hbn.mono (Nat.le_of_lt zl)); have zl := Nat.lt_of_lt_of_le zl hbn.size; have Xq := X; obtain ⟨a0, a1, a2, a3, a4, a5, a6, a7⟩ := Xq)
        | (go_at_call 267; with_reducible refine (specIsD_u d B _ (hd.below (hcur.mono hB)) (Nat.le_trans hB hcur.size) hsz).mono ?_; rintro e wn ⟨rfl, hbn⟩; rw [HDV.out]; have X := X.below hbn zl; have hcur := hcur.trans (hbn.mono (Nat.le_of_lt zl)); have zl := Nat.lt_of_lt_of_le zl hbn.size; have Xq := X; obtain ⟨a0, a1, a2, a3, a4, a5, a6, a7⟩ := Xq)
        | (go_at_call 43; with_reducible refine (l1In_any _ _ _ _).mono ?_; rintro e wn ⟨rfl, hwn⟩; obtain rfl := hwn; rw [HI1.out])
        | (go_at_call 43; with_reducible refine (l1In_any _ _ _ _).mono ?_; rintro e wn ⟨rfl, hwn⟩; obtain rfl := hwn; rw [HI2.out]))
      go_ret
      exact ⟨by first | exact ret_bool HS.out.symm | exact ret_bool (by rw [HS.out]; simp; omega), by first | exact hcur | exact hcur.drew⟩
    · have qn2 : (d.a.n != 0) = false := by unfold bne; rw [qn]; rfl
      by_cases q0 : (1 ≤ (d.l.length : Int) ∧ (d.l.length : Int) ≤ 9)
      · have HI1 : Hid (decide (1 ≤ (d.l.length : Int) ∧ (d.l.length : Int) ≤ 9) = true) := decide_eq_true q0
        cases q1 : ((d.a.s.length : Int) == 0)
        · have hS : d.a.shape d.l.length = false := by simp [Ko.shape, kKind, Ko.isVar, hk, qz, qn, q0, q1]
          have HS := Lib.hid hS
          clear hS
          have H_hk := Lib.hid hk
          have H_qz := Lib.hid qz
          have H_qn := Lib.hid qn
          have H_q0 := Lib.hid q0
          have H_q1 := Lib.hid q1
          have H_qn2 := Lib.hid qn2
          clear hk qz qn q0 q1 qn2
          go_enter Tryz.func237, Tryz.ntmps237
          go_upto_region 1 with fail
          rw [← hW]
          clear hW
          have hk := H_hk.out
          have qz := H_qz.out
          have qn := H_qn.out
          have q0 := H_q0.out
          have q1 := H_q1.out
          have qn2 := H_qn2.out
          go_wp2_with (first
            | (go_at_call 266; with_reducible refine (eqz_any d B _ (hd.below (hcur.mono hB)) (Nat.le_trans hB hcur.size)).mono ?_; rintro e wn ⟨rfl, hbn⟩; rw [HDZ.out]; have X := X.below hbn zl; have hcur := hcur.trans (hbn.mono (Nat.le_of_lt zl)); have zl := Nat.lt_of_lt_of_le zl hbn.size; have Xq := X; obtain ⟨a0, a1, a2, a3, a4, a5, a6, a7⟩ := Xq)
            | (go_at_call 101; with_reducible refine (HNM.out _).mono ?_; rintro e wn ⟨rfl, hbn⟩; rw [HV.out]; have X := X.below hbn zl; have hcur := hcur.trans (hbn.mono (Nat.le_of_lt zl)); have zl := Nat.lt_of_lt_of_le zl hbn.size; have Xq := X; obtain ⟨a0, a1, a2, a3, a4, a5, a6, a7⟩ := Xq)
            | (go_at_call 267; with_reducible refine (specIsD_u d B _ (hd.below (hcur.mono hB)) (Nat.le_trans hB hcur.size) hsz).mono ?_; rintro e wn ⟨rfl, hbn⟩; rw [HDV.out]; have X := X.below hbn zl; have hcur := hcur.trans (hbn.mono (Nat.le_of_lt zl)); have zl := Nat.lt_of_lt_of_le zl hbn.size; have Xq := X; obtain ⟨a0, a1, a2, a3, a4, a5, a6, a7⟩ := Xq)
            | (go_at_call 43; with_reducible refine (l1In_any _ _ _ _).mono ?_; rintro e wn ⟨rfl, hwn⟩; obtain rfl := hwn; rw [HI1.out])
            | (go_at_call 43; with_reducible refine (l1In_any _ _ _ _).mono ?_; rintro e wn ⟨rfl, hwn⟩; obtain rfl := hwn; rw [HI2.out]))
          go_ret
          exact ⟨by first | exact ret_bool HS.out.symm | exact ret_bool (by rw [HS.out]; simp; omega), by first | exact hcur | exact hcur.drew⟩
        · have hS : d.a.shape d.l.length = true := by simp [Ko.shape, kKind, Ko.isVar, hk, qz, qn, q0, q1]
          have HS := Lib.hid hS
          clear hS
          have H_hk := Lib.hid hk
          have H_qz := Lib.hid qz
          have H_qn := Lib.hid qn
          have H_q0 := Lib.hid q0
          have H_q1 := Lib.hid q1
          have H_qn2 := Lib.hid qn2
          clear hk qz qn q0 q1 qn2
          go_enter Tryz.func237, Tryz.ntmps237
          go_upto_region 1 with fail
          rw [← hW]
          clear hW
          have hk := H_hk.out
          have qz := H_qz.out
          have qn := H_qn.out
          have q0 := H_q0.out
          have q1 := H_q1.out
          have qn2 := H_qn2.out
          go_wp2_with (first
            | (go_at_call 266; with_reducible refine (eqz_any d B _ (hd.below (hcur.mono hB)) (Nat.le_trans hB hcur.size)).mono ?_; rintro e wn ⟨rfl, hbn⟩; rw [HDZ.out]; have X := X.below hbn zl; have hcur := hcur.trans (hbn.mono (Nat.le_of_lt zl)); have zl := Nat.lt_of_lt_of_le zl hbn.size; have Xq := X; obtain ⟨a0, a1, a2, a3, a4, a5, a6, a7⟩ := Xq)
            | (go_at_call 101; with_reducible refine (HNM.out _).mono ?_; rintro e wn ⟨rfl, hbn⟩; rw [HV.out]; have X := X.below hbn zl; have hcur := hcur.trans (hbn.mono (Nat.le_of_lt zl)); have zl := Nat.lt_of_lt_of_le zl hbn.size; have Xq := X; obtain ⟨a0, a1, a2, a3, a4, a5, a6, a7⟩ := Xq)
            | (go_at_call 267; with_reducible refine (specIsD_u d B _ (hd.below (hcur.mono hB)) (Nat.le_trans hB hcur.size) hsz).mono ?_; rintro e wn ⟨rfl, hbn⟩; rw [HDV.out]; have X := X.below hbn zl; have hcur := hcur.trans (hbn.mono (Nat.le_of_lt zl)); have zl := Nat.lt_of_lt_of_le zl hbn.size; have Xq := X; obtain ⟨a0, a1, a2, a3, a4, a5, a6, a7⟩ := Xq)
            | (go_at_call 43; with_reducible refine (l1In_any _ _ _ _).mono ?_; rintro e wn ⟨rfl, hwn⟩; obtain rfl := hwn; rw [HI1.out])
            | (go_at_call 43; with_reducible refine (l1In_any _ _ _ _).mono ?_; rintro e wn ⟨rfl, hwn⟩; obtain rfl := hwn; rw [HI2.out]))
          go_ret
          exact ⟨by first | exact ret_bool HS.out.symm | exact ret_bool (by rw [HS.out]; simp; omega), by first | exact hcur | exact hcur.drew⟩
      · have HI1 : Hid (decide (1 ≤ (d.l.length : Int) ∧ (d.l.length : Int) ≤ 9) = false) := decide_eq_false q0
        have hS : d.a.shape d.l.length = false := by simp [Ko.shape, kKind, Ko.isVar, hk, qz, qn, q0]
        have HS := Lib.hid hS
        clear hS
        have H_hk := Lib.hid hk
        have H_qz := Lib.hid qz
        have H_qn := Lib.hid qn
        have H_q0 := Lib.hid q0
        have H_qn2 := Lib.hid qn2
        clear hk qz qn q0 qn2
        go_enter Tryz.func237, Tryz.ntmps237
        go_upto_region 1 with fail
        rw [← hW]
        clear hW
        have hk := H_hk.out
        have qz := H_qz.out
        have qn := H_qn.out
        have q0 := H_q0.out
        have qn2 := H_qn2.out
        go_wp2_with (first
          | (go_at_call 266; with_reducible refine (eqz_any d B _ (hd.below (hcur.mono hB)) (Nat.le_trans hB hcur.size)).mono ?_; rintro e wn ⟨rfl, hbn⟩; rw [HDZ.out]; have X := X.below hbn zl; have hcur := hcur.trans (hbn.mono (Nat.le_of_lt zl)); have zl := Nat.lt_of_lt_of_le zl hbn.size; have Xq := X; obtain ⟨a0, a1, a2, a3, a4, a5, a6, a7⟩ := Xq)
          | (go_at_call 101; with_reducible refine (HNM.out _).mono ?_; rintro e wn ⟨rfl, hbn⟩; rw [HV.out]; have X := X.below hbn zl; have hcur := hcur.trans (hbn.mono (Nat.le_of_lt zl)); have zl := Nat.lt_of_lt_of_le zl hbn.size; have Xq := X; obtain ⟨a0, a1, a2, a3, a4, a5, a6, a7⟩ := Xq)
          | (go_at_call 267; with_reducible refine (specIsD_u d B _ (hd.below (hcur.mono hB)) (Nat.le_trans hB hcur.size) hsz).mono ?_; rintro e wn ⟨rfl, hbn⟩; rw [HDV.out]; have X := X.below hbn zl; have hcur := hcur.trans (hbn.mono (Nat.le_of_lt zl)); have zl := Nat.lt_of_lt_of_le zl hbn.size; have Xq := X; obtain ⟨a0, a1, a2, a3, a4, a5, a6, a7⟩ := Xq)
          | (go_at_call 43; with_reducible refine (l1In_any _ _ _ _).mono ?_; rintro e wn ⟨rfl, hwn⟩; obtain rfl := hwn; rw [HI1.out])
          | (go_at_call 43; with_reducible refine (l1In_any _ _ _ _).mono ?_; rintro e wn ⟨rfl, hwn⟩; obtain rfl := hwn; rw [HI2.out]))
        go_ret
        exact ⟨by first | exact ret_bool HS.out.symm | exact ret_bool (by rw [HS.out]; simp; omega), by first | exact hcur | exact hcur.drew⟩
set_option maxRecDepth 100000 in
set_option maxHeartbeats 600000 in
theorem shape7_any (d : Tr Ko) (B : Nat) (w : World) (hin : Ko.E.In w B d) (hB : B ≤ w.heap.size) (hsz : d.a.d.size ≤ 2000000) (hk : d.a.k = 7) : Calls Tryz.prog 237 #[Ko.val d] w fun e w' => e = .returned (.bool (d.a.shape d.l.length)) ∧ Below w.heap.size w w' := by
  have hd := (Ko.E_in hin).1.d
  obtain ⟨W, hW⟩ : ∃ W, W = w.alloc (.cells #[.int .i64 d.a.k, .int .i64 d.a.n, .slice d.a.sA d.a.s.length d.a.sC, .int .i64 d.a.d.k, .int .i64 d.a.d.n, .string d.a.d.t, .slice d.a.d.A d.a.d.l.length d.a.d.c, .slice d.A d.l.length d.c] 35) := ⟨_, rfl⟩
  have zW : W.heap.size = w.heap.size + 1 := by rw [hW]; simp
  have zl : w.heap.size < W.heap.size := by omega
  have hcur : Below w.heap.size w W := by rw [hW]; exact (Below.refl _ _).alloc (Nat.le_refl _) _
  have X : Ko.Box W w.heap.size d := by rw [hW]; exact Ko.Box.new _ _ _
  clear zW
  have HV : Hid (d.a.isVar = false) := by show _ = _; unfold Ko.isVar; rw [hk]; rfl
  have HNM : Hid (∀ w' : World, Calls Tryz.prog 101 #[.agg #[.int .i64 7, .int .i64 d.a.n, .slice d.a.sA d.a.s.length d.a.sC, .int .i64 d.a.d.k, .int .i64 d.a.d.n, .string d.a.d.t, .slice d.a.d.A d.a.d.l.length d.a.d.c, .slice d.A d.l.length d.c]] w' fun e w'' => e = .returned (.bool d.a.isVar) ∧ Below w'.heap.size w' w'') := fun w' => by
    have h := specNames_u d w'
    rwa [hk] at h
  unfold Ko.val
  have Xq := X
  obtain ⟨a0, a1, a2, a3, a4, a5, a6, a7⟩ := Xq
  cases qz : d.a.dz
  · have HDZ : Hid (D.eqB d.a.d zeroD = false) := qz
    have hS : d.a.shape d.l.length = false := by simp [Ko.shape, kKind, Ko.isVar, hk, qz]
    have HS := Lib.hid hS
    clear hS
    have H_hk := Lib.hid hk
    have H_qz := Lib.hid qz
    clear hk qz
    go_enter Tryz.func237, Tryz.ntmps237
    go_upto_region 1 with fail
    rw [← hW]
    clear hW
    have hk := H_hk.out
    have qz := H_qz.out
    go_wp2_with (first
      | (go_at_call 266; with_reducible refine (eqz_any d B _ (hd.below (hcur.mono hB)) (Nat.le_trans hB hcur.size)).mono ?_; rintro e wn ⟨rfl, hbn⟩; rw [HDZ.out]; have X := X.below hbn zl; have hcur := hcur.trans (hbn.mono (Nat.le_of_lt zl)); have zl := Nat.lt_of_lt_of_le zl hbn.size; have Xq := X; obtain ⟨a0, a1, a2, a3, a4, a5, a6, a7⟩ := Xq)
      | (go_at_call 101; with_reducible refine (HNM.out _).mono ?_; rintro e wn ⟨rfl, hbn⟩; rw [HV.out]; have X := X.below hbn zl; have hcur := hcur.trans (hbn.mono (Nat.le_of_lt zl)); have zl := Nat.lt_of_lt_of_le zl hbn.size; have Xq := X; obtain ⟨a0, a1, a2, a3, a4, a5, a6, a7⟩ := Xq)
      | (go_at_call 267; with_reducible refine (specIsD_u d B _ (hd.below (hcur.mono hB)) (Nat.le_trans hB hcur.size) hsz).mono ?_; rintro e wn ⟨rfl, hbn⟩; rw [HDV.out]; have X := X.below hbn zl; have hcur := hcur.trans (hbn.mono (Nat.le_of_lt zl)); have zl := Nat.lt_of_lt_of_le zl hbn.size; have Xq := X; obtain ⟨a0, a1, a2, a3, a4, a5, a6, a7⟩ := Xq)
      | (go_at_call 43; with_reducible refine (l1In_any _ _ _ _).mono ?_; rintro e wn ⟨rfl, hwn⟩; obtain rfl := hwn; rw [HI1.out])
      | (go_at_call 43; with_reducible refine (l1In_any _ _ _ _).mono ?_; rintro e wn ⟨rfl, hwn⟩; obtain rfl := hwn; rw [HI2.out]))
    go_ret
    exact ⟨by first | exact ret_bool HS.out.symm | exact ret_bool (by rw [HS.out]; simp; omega), by first | exact hcur | exact hcur.drew⟩
  · have HDZ : Hid (D.eqB d.a.d zeroD = true) := qz
    cases qn : (d.a.n == 0)
    · have qn2 : (d.a.n != 0) = true := by unfold bne; rw [qn]; rfl
      have hS : d.a.shape d.l.length = false := by simp [Ko.shape, kKind, Ko.isVar, hk, qz, qn]
      have HS := Lib.hid hS
      clear hS
      have H_hk := Lib.hid hk
      have H_qz := Lib.hid qz
      have H_qn := Lib.hid qn
      have H_qn2 := Lib.hid qn2
      clear hk qz qn qn2
      go_enter Tryz.func237, Tryz.ntmps237
      go_upto_region 1 with fail
      rw [← hW]
      clear hW
      have hk := H_hk.out
      have qz := H_qz.out
      have qn := H_qn.out
      have qn2 := H_qn2.out
      go_wp2_with (first
        | (go_at_call 266; with_reducible refine (eqz_any d B _ (hd.below (hcur.mono hB)) (Nat.le_trans hB hcur.size)).mono ?_; rintro e wn ⟨rfl, hbn⟩; rw [HDZ.out]; have X := X.below hbn zl; have hcur := hcur.trans (hbn.mono (Nat.le_of_lt zl)); have zl := Nat.lt_of_lt_of_le zl hbn.size; have Xq := X; obtain ⟨a0, a1, a2, a3, a4, a5, a6, a7⟩ := Xq)
        | (go_at_call 101; with_reducible refine (HNM.out _).mono ?_; rintro e wn ⟨rfl, hbn⟩; rw [HV.out]; have X := X.below hbn zl; have hcur := hcur.trans (hbn.mono (Nat.le_of_lt zl)); have zl := Nat.lt_of_lt_of_le zl hbn.size; have Xq := X; obtain ⟨a0, a1, a2, a3, a4, a5, a6, a7⟩ := Xq)
        | (go_at_call 267; with_reducible refine (specIsD_u d B _ (hd.below (hcur.mono hB)) (Nat.le_trans hB hcur.size) hsz).mono ?_; rintro e wn ⟨rfl, hbn⟩; rw [HDV.out]; have X := X.below hbn zl; have hcur := hcur.trans (hbn.mono (Nat.le_of_lt zl)); have zl := Nat.lt_of_lt_of_le zl hbn.size; have Xq := X; obtain ⟨a0, a1, a2, a3, a4, a5, a6, a7⟩ := Xq)
        | (go_at_call 43; with_reducible refine (l1In_any _ _ _ _).mono ?_; rintro e wn ⟨rfl, hwn⟩; obtain rfl := hwn; rw [HI1.out])
        | (go_at_call 43; with_reducible refine (l1In_any _ _ _ _).mono ?_; rintro e wn ⟨rfl, hwn⟩; obtain rfl := hwn; rw [HI2.out]))
      go_ret
      exact ⟨by first | exact ret_bool HS.out.symm | exact ret_bool (by rw [HS.out]; simp; omega), by first | exact hcur | exact hcur.drew⟩
    · have qn2 : (d.a.n != 0) = false := by unfold bne; rw [qn]; rfl
      cases q0 : ((d.l.length : Int) == 3)
      · have hS : d.a.shape d.l.length = false := by simp [Ko.shape, kKind, Ko.isVar, hk, qz, qn, q0]
        have HS := Lib.hid hS
        clear hS
        have H_hk := Lib.hid hk
        have H_qz := Lib.hid qz
        have H_qn := Lib.hid qn
        have H_q0 := Lib.hid q0
        have H_qn2 := Lib.hid qn2
        clear hk qz qn q0 qn2
        go_enter Tryz.func237, Tryz.ntmps237
        go_upto_region 1 with fail
        rw [← hW]
        clear hW
        have hk := H_hk.out
        have qz := H_qz.out
        have qn := H_qn.out
        have q0 := H_q0.out
        have qn2 := H_qn2.out
        go_wp2_with (first
          | (go_at_call 266; with_reducible refine (eqz_any d B _ (hd.below (hcur.mono hB)) (Nat.le_trans hB hcur.size)).mono ?_; rintro e wn ⟨rfl, hbn⟩; rw [HDZ.out]; have X := X.below hbn zl; have hcur := hcur.trans (hbn.mono (Nat.le_of_lt zl)); have zl := Nat.lt_of_lt_of_le zl hbn.size; have Xq := X; obtain ⟨a0, a1, a2, a3, a4, a5, a6, a7⟩ := Xq)
          | (go_at_call 101; with_reducible refine (HNM.out _).mono ?_; rintro e wn ⟨rfl, hbn⟩; rw [HV.out]; have X := X.below hbn zl; have hcur := hcur.trans (hbn.mono (Nat.le_of_lt zl)); have zl := Nat.lt_of_lt_of_le zl hbn.size; have Xq := X; obtain ⟨a0, a1, a2, a3, a4, a5, a6, a7⟩ := Xq)
          | (go_at_call 267; with_reducible refine (specIsD_u d B _ (hd.below (hcur.mono hB)) (Nat.le_trans hB hcur.size) hsz).mono ?_; rintro e wn ⟨rfl, hbn⟩; rw [HDV.out]; have X := X.below hbn zl; have hcur := hcur.trans (hbn.mono (Nat.le_of_lt zl)); have zl := Nat.lt_of_lt_of_le zl hbn.size; have Xq := X; obtain ⟨a0, a1, a2, a3, a4, a5, a6, a7⟩ := Xq)
          | (go_at_call 43; with_reducible refine (l1In_any _ _ _ _).mono ?_; rintro e wn ⟨rfl, hwn⟩; obtain rfl := hwn; rw [HI1.out])
          | (go_at_call 43; with_reducible refine (l1In_any _ _ _ _).mono ?_; rintro e wn ⟨rfl, hwn⟩; obtain rfl := hwn; rw [HI2.out]))
        go_ret
        exact ⟨by first | exact ret_bool HS.out.symm | exact ret_bool (by rw [HS.out]; simp; omega), by first | exact hcur | exact hcur.drew⟩
      · cases q1 : ((d.a.s.length : Int) == 0)
        · have hS : d.a.shape d.l.length = false := by simp [Ko.shape, kKind, Ko.isVar, hk, qz, qn, q0, q1]
          have HS := Lib.hid hS
          clear hS
          have H_hk := Lib.hid hk
          have H_qz := Lib.hid qz
          have H_qn := Lib.hid qn
          have H_q0 := Lib.hid q0
          have H_q1 := Lib.hid q1
          have H_qn2 := Lib.hid qn2
          clear hk qz qn q0 q1 qn2
          go_enter Tryz.func237, Tryz.ntmps237
          go_upto_region 1 with fail
          rw [← hW]
          clear hW
          have hk := H_hk.out
          have qz := H_qz.out
          have qn := H_qn.out
          have q0 := H_q0.out
          have q1 := H_q1.out
          have qn2 := H_qn2.out
          go_wp2_with (first
            | (go_at_call 266; with_reducible refine (eqz_any d B _ (hd.below (hcur.mono hB)) (Nat.le_trans hB hcur.size)).mono ?_; rintro e wn ⟨rfl, hbn⟩; rw [HDZ.out]; have X := X.below hbn zl; have hcur := hcur.trans (hbn.mono (Nat.le_of_lt zl)); have zl := Nat.lt_of_lt_of_le zl hbn.size; have Xq := X; obtain ⟨a0, a1, a2, a3, a4, a5, a6, a7⟩ := Xq)
            | (go_at_call 101; with_reducible refine (HNM.out _).mono ?_; rintro e wn ⟨rfl, hbn⟩; rw [HV.out]; have X := X.below hbn zl; have hcur := hcur.trans (hbn.mono (Nat.le_of_lt zl)); have zl := Nat.lt_of_lt_of_le zl hbn.size; have Xq := X; obtain ⟨a0, a1, a2, a3, a4, a5, a6, a7⟩ := Xq)
            | (go_at_call 267; with_reducible refine (specIsD_u d B _ (hd.below (hcur.mono hB)) (Nat.le_trans hB hcur.size) hsz).mono ?_; rintro e wn ⟨rfl, hbn⟩; rw [HDV.out]; have X := X.below hbn zl; have hcur := hcur.trans (hbn.mono (Nat.le_of_lt zl)); have zl := Nat.lt_of_lt_of_le zl hbn.size; have Xq := X; obtain ⟨a0, a1, a2, a3, a4, a5, a6, a7⟩ := Xq)
            | (go_at_call 43; with_reducible refine (l1In_any _ _ _ _).mono ?_; rintro e wn ⟨rfl, hwn⟩; obtain rfl := hwn; rw [HI1.out])
            | (go_at_call 43; with_reducible refine (l1In_any _ _ _ _).mono ?_; rintro e wn ⟨rfl, hwn⟩; obtain rfl := hwn; rw [HI2.out]))
          go_ret
          exact ⟨by first | exact ret_bool HS.out.symm | exact ret_bool (by rw [HS.out]; simp; omega), by first | exact hcur | exact hcur.drew⟩
        · have hS : d.a.shape d.l.length = true := by simp [Ko.shape, kKind, Ko.isVar, hk, qz, qn, q0, q1]
          have HS := Lib.hid hS
          clear hS
          have H_hk := Lib.hid hk
          have H_qz := Lib.hid qz
          have H_qn := Lib.hid qn
          have H_q0 := Lib.hid q0
          have H_q1 := Lib.hid q1
          have H_qn2 := Lib.hid qn2
          clear hk qz qn q0 q1 qn2
          go_enter Tryz.func237, Tryz.ntmps237
          go_upto_region 1 with fail
          rw [← hW]
          clear hW
          have hk := H_hk.out
          have qz := H_qz.out
          have qn := H_qn.out
          have q0 := H_q0.out
          have q1 := H_q1.out
          have qn2 := H_qn2.out
          go_wp2_with (first
            | (go_at_call 266; with_reducible refine (eqz_any d B _ (hd.below (hcur.mono hB)) (Nat.le_trans hB hcur.size)).mono ?_; rintro e wn ⟨rfl, hbn⟩; rw [HDZ.out]; have X := X.below hbn zl; have hcur := hcur.trans (hbn.mono (Nat.le_of_lt zl)); have zl := Nat.lt_of_lt_of_le zl hbn.size; have Xq := X; obtain ⟨a0, a1, a2, a3, a4, a5, a6, a7⟩ := Xq)
            | (go_at_call 101; with_reducible refine (HNM.out _).mono ?_; rintro e wn ⟨rfl, hbn⟩; rw [HV.out]; have X := X.below hbn zl; have hcur := hcur.trans (hbn.mono (Nat.le_of_lt zl)); have zl := Nat.lt_of_lt_of_le zl hbn.size; have Xq := X; obtain ⟨a0, a1, a2, a3, a4, a5, a6, a7⟩ := Xq)
            | (go_at_call 267; with_reducible refine (specIsD_u d B _ (hd.below (hcur.mono hB)) (Nat.le_trans hB hcur.size) hsz).mono ?_; rintro e wn ⟨rfl, hbn⟩; rw [HDV.out]; have X := X.below hbn zl; have hcur := hcur.trans (hbn.mono (Nat.le_of_lt zl)); have zl := Nat.lt_of_lt_of_le zl hbn.size; have Xq := X; obtain ⟨a0, a1, a2, a3, a4, a5, a6, a7⟩ := Xq)
            | (go_at_call 43; with_reducible refine (l1In_any _ _ _ _).mono ?_; rintro e wn ⟨rfl, hwn⟩; obtain rfl := hwn; rw [HI1.out])
            | (go_at_call 43; with_reducible refine (l1In_any _ _ _ _).mono ?_; rintro e wn ⟨rfl, hwn⟩; obtain rfl := hwn; rw [HI2.out]))
          go_ret
          exact ⟨by first | exact ret_bool HS.out.symm | exact ret_bool (by rw [HS.out]; simp; omega), by first | exact hcur | exact hcur.drew⟩
set_option maxRecDepth 100000 in
set_option maxHeartbeats 600000 in
theorem shape8_any (d : Tr Ko) (B : Nat) (w : World) (hin : Ko.E.In w B d) (hB : B ≤ w.heap.size) (hsz : d.a.d.size ≤ 2000000) (hk : d.a.k = 8) : Calls Tryz.prog 237 #[Ko.val d] w fun e w' => e = .returned (.bool (d.a.shape d.l.length)) ∧ Below w.heap.size w w' := by
  have hd := (Ko.E_in hin).1.d
  obtain ⟨W, hW⟩ : ∃ W, W = w.alloc (.cells #[.int .i64 d.a.k, .int .i64 d.a.n, .slice d.a.sA d.a.s.length d.a.sC, .int .i64 d.a.d.k, .int .i64 d.a.d.n, .string d.a.d.t, .slice d.a.d.A d.a.d.l.length d.a.d.c, .slice d.A d.l.length d.c] 35) := ⟨_, rfl⟩
  have zW : W.heap.size = w.heap.size + 1 := by rw [hW]; simp
  have zl : w.heap.size < W.heap.size := by omega
  have hcur : Below w.heap.size w W := by rw [hW]; exact (Below.refl _ _).alloc (Nat.le_refl _) _
  have X : Ko.Box W w.heap.size d := by rw [hW]; exact Ko.Box.new _ _ _
  clear zW
  have HV : Hid (d.a.isVar = false) := by show _ = _; unfold Ko.isVar; rw [hk]; rfl
  have HNM : Hid (∀ w' : World, Calls Tryz.prog 101 #[.agg #[.int .i64 8, .int .i64 d.a.n, .slice d.a.sA d.a.s.length d.a.sC, .int .i64 d.a.d.k, .int .i64 d.a.d.n, .string d.a.d.t, .slice d.a.d.A d.a.d.l.length d.a.d.c, .slice d.A d.l.length d.c]] w' fun e w'' => e = .returned (.bool d.a.isVar) ∧ Below w'.heap.size w' w'') := fun w' => by
    have h := specNames_u d w'
    rwa [hk] at h
  unfold Ko.val
  have Xq := X
  obtain ⟨a0, a1, a2, a3, a4, a5, a6, a7⟩ := Xq
  cases qz : d.a.dz
  · have HDZ : Hid (D.eqB d.a.d zeroD = false) := qz
    have hS : d.a.shape d.l.length = false := by simp [Ko.shape, kKind, Ko.isVar, hk, qz]
    have HS := Lib.hid hS
    clear hS
    have H_hk := Lib.hid hk
    have H_qz := Lib.hid qz
    clear hk qz
    go_enter Tryz.func237, Tryz.ntmps237
    go_upto_region 1 with fail
    rw [← hW]
    clear hW
    have hk := H_hk.out
    have qz := H_qz.out
    go_wp2_with (first
      | (go_at_call 266; with_reducible refine (eqz_any d B _ (hd.below (hcur.mono hB)) (Nat.le_trans hB hcur.size)).mono ?_; rintro e wn ⟨rfl, hbn⟩; rw [HDZ.out]; have X := X.below hbn zl; have hcur := hcur.trans (hbn.mono (Nat.le_of_lt zl)); have zl := Nat.lt_of_lt_of_le zl hbn.size; have Xq := X; obtain ⟨a0, a1, a2, a3, a4, a5, a6, a7⟩ := Xq)
      | (go_at_call 101; with_reducible refine (HNM.out _).mono ?_; rintro e wn ⟨rfl, hbn⟩; rw [HV.out]; have X := X.below hbn zl; have hcur := hcur.trans (hbn.mono (Nat.le_of_lt zl)); have zl := Nat.lt_of_lt_of_le zl hbn.size; have Xq := X; obtain ⟨a0, a1, a2, a3, a4, a5, a6, a7⟩ := Xq)
      | (go_at_call 267; with_reducible refine (specIsD_u d B _ (hd.below (hcur.mono hB)) (Nat.le_trans hB hcur.size) hsz).mono ?_; rintro e wn ⟨rfl, hbn⟩; rw [HDV.out]; have X := X.below hbn zl; have hcur := hcur.trans (hbn.mono (Nat.le_of_lt zl)); have zl := Nat.lt_of_lt_of_le zl hbn.size; have Xq := X; obtain ⟨a0, a1, a2, a3, a4, a5, a6, a7⟩ := Xq)
      | (go_at_call 43; with_reducible refine (l1In_any _ _ _ _).mono ?_; rintro e wn ⟨rfl, hwn⟩; obtain rfl := hwn; rw [HI1.out])
      | (go_at_call 43; with_reducible refine (l1In_any _ _ _ _).mono ?_; rintro e wn ⟨rfl, hwn⟩; obtain rfl := hwn; rw [HI2.out]))
    go_ret
    exact ⟨by first | exact ret_bool HS.out.symm | exact ret_bool (by rw [HS.out]; simp; omega), by first | exact hcur | exact hcur.drew⟩
  · have HDZ : Hid (D.eqB d.a.d zeroD = true) := qz
    cases qn : (d.a.n == 0)
    · have qn2 : (d.a.n != 0) = true := by unfold bne; rw [qn]; rfl
      have hS : d.a.shape d.l.length = false := by simp [Ko.shape, kKind, Ko.isVar, hk, qz, qn]
      have HS := Lib.hid hS
      clear hS
      have H_hk := Lib.hid hk
      have H_qz := Lib.hid qz
      have H_qn := Lib.hid qn
      have H_qn2 := Lib.hid qn2
      clear hk qz qn qn2
      go_enter Tryz.func237, Tryz.ntmps237
      go_upto_region 1 with fail
      rw [← hW]
      clear hW
      have hk := H_hk.out
      have qz := H_qz.out
      have qn := H_qn.out
      have qn2 := H_qn2.out
      go_wp2_with (first
        | (go_at_call 266; with_reducible refine (eqz_any d B _ (hd.below (hcur.mono hB)) (Nat.le_trans hB hcur.size)).mono ?_; rintro e wn ⟨rfl, hbn⟩; rw [HDZ.out]; have X := X.below hbn zl; have hcur := hcur.trans (hbn.mono (Nat.le_of_lt zl)); have zl := Nat.lt_of_lt_of_le zl hbn.size; have Xq := X; obtain ⟨a0, a1, a2, a3, a4, a5, a6, a7⟩ := Xq)
        | (go_at_call 101; with_reducible refine (HNM.out _).mono ?_; rintro e wn ⟨rfl, hbn⟩; rw [HV.out]; have X := X.below hbn zl; have hcur := hcur.trans (hbn.mono (Nat.le_of_lt zl)); have zl := Nat.lt_of_lt_of_le zl hbn.size; have Xq := X; obtain ⟨a0, a1, a2, a3, a4, a5, a6, a7⟩ := Xq)
        | (go_at_call 267; with_reducible refine (specIsD_u d B _ (hd.below (hcur.mono hB)) (Nat.le_trans hB hcur.size) hsz).mono ?_; rintro e wn ⟨rfl, hbn⟩; rw [HDV.out]; have X := X.below hbn zl; have hcur := hcur.trans (hbn.mono (Nat.le_of_lt zl)); have zl := Nat.lt_of_lt_of_le zl hbn.size; have Xq := X; obtain ⟨a0, a1, a2, a3, a4, a5, a6, a7⟩ := Xq)
        | (go_at_call 43; with_reducible refine (l1In_any _ _ _ _).mono ?_; rintro e wn ⟨rfl, hwn⟩; obtain rfl := hwn; rw [HI1.out])
        | (go_at_call 43; with_reducible refine (l1In_any _ _ _ _).mono ?_; rintro e wn ⟨rfl, hwn⟩; obtain rfl := hwn; rw [HI2.out]))
      go_ret
      exact ⟨by first | exact ret_bool HS.out.symm | exact ret_bool (by rw [HS.out]; simp; omega), by first | exact hcur | exact hcur.drew⟩
    · have qn2 : (d.a.n != 0) = false := by unfold bne; rw [qn]; rfl
      by_cases q0 : (2 ≤ (d.l.length : Int) ∧ (d.l.length : Int) ≤ 60)
      · have HI1 : Hid (decide (2 ≤ (d.l.length : Int) ∧ (d.l.length : Int) ≤ 60) = true) := decide_eq_true q0
        cases q1 : ((d.a.s.length : Int) == 0)
        · have hS : d.a.shape d.l.length = false := by simp [Ko.shape, kKind, Ko.isVar, hk, qz, qn, q0, q1]
          have HS := Lib.hid hS
          clear hS
          have H_hk := Lib.hid hk
          have H_qz := Lib.hid qz
          have H_qn := Lib.hid qn
          have H_q0 := Lib.hid q0
          have H_q1 := Lib.hid q1
          have H_qn2 := Lib.hid qn2
          clear hk qz qn q0 q1 qn2
          go_enter Tryz.func237, Tryz.ntmps237
          go_upto_region 1 with fail
          rw [← hW]
          clear hW
          have hk := H_hk.out
          have qz := H_qz.out
          have qn := H_qn.out
          have q0 := H_q0.out
          have q1 := H_q1.out
          have qn2 := H_qn2.out
          go_wp2_with (first
            | (go_at_call 266; with_reducible refine (eqz_any d B _ (hd.below (hcur.mono hB)) (Nat.le_trans hB hcur.size)).mono ?_; rintro e wn ⟨rfl, hbn⟩; rw [HDZ.out]; have X := X.below hbn zl; have hcur := hcur.trans (hbn.mono (Nat.le_of_lt zl)); have zl := Nat.lt_of_lt_of_le zl hbn.size; have Xq := X; obtain ⟨a0, a1, a2, a3, a4, a5, a6, a7⟩ := Xq)
            | (go_at_call 101; with_reducible refine (HNM.out _).mono ?_; rintro e wn ⟨rfl, hbn⟩; rw [HV.out]; have X := X.below hbn zl; have hcur := hcur.trans (hbn.mono (Nat.le_of_lt zl)); have zl := Nat.lt_of_lt_of_le zl hbn.size; have Xq := X; obtain ⟨a0, a1, a2, a3, a4, a5, a6, a7⟩ := Xq)
            | (go_at_call 267; with_reducible refine (specIsD_u d B _ (hd.below (hcur.mono hB)) (Nat.le_trans hB hcur.size) hsz).mono ?_; rintro e wn ⟨rfl, hbn⟩; rw [HDV.out]; have X := X.below hbn zl; have hcur := hcur.trans (hbn.mono (Nat.le_of_lt zl)); have zl := Nat.lt_of_lt_of_le zl hbn.size; have Xq := X; obtain ⟨a0, a1, a2, a3, a4, a5, a6, a7⟩ := Xq)
            | (go_at_call 43; with_reducible refine (l1In_any _ _ _ _).mono ?_; rintro e wn ⟨rfl, hwn⟩; obtain rfl := hwn; rw [HI1.out])
            | (go_at_call 43; with_reducible refine (l1In_any _ _ _ _).mono ?_; rintro e wn ⟨rfl, hwn⟩; obtain rfl := hwn; rw [HI2.out]))
          go_ret
          exact ⟨by first | exact ret_bool HS.out.symm | exact ret_bool (by rw [HS.out]; simp; omega), by first | exact hcur | exact hcur.drew⟩
        · have hS : d.a.shape d.l.length = true := by simp [Ko.shape, kKind, Ko.isVar, hk, qz, qn, q0, q1]
          have HS := Lib.hid hS
          clear hS
          have H_hk := Lib.hid hk
          have H_qz := Lib.hid qz
          have H_qn := Lib.hid qn
          have H_q0 := Lib.hid q0
          have H_q1 := Lib.hid q1
          have H_qn2 := Lib.hid qn2
          clear hk qz qn q0 q1 qn2
          go_enter Tryz.func237, Tryz.ntmps237
          go_upto_region 1 with fail
          rw [← hW]
          clear hW
          have hk := H_hk.out
          have qz := H_qz.out
          have qn := H_qn.out
          have q0 := H_q0.out
          have q1 := H_q1.out
          have qn2 := H_qn2.out
          go_wp2_with (first
            | (go_at_call 266; with_reducible refine (eqz_any d B _ (hd.below (hcur.mono hB)) (Nat.le_trans hB hcur.size)).mono ?_; rintro e wn ⟨rfl, hbn⟩; rw [HDZ.out]; have X := X.below hbn zl; have hcur := hcur.trans (hbn.mono (Nat.le_of_lt zl)); have zl := Nat.lt_of_lt_of_le zl hbn.size; have Xq := X; obtain ⟨a0, a1, a2, a3, a4, a5, a6, a7⟩ := Xq)
            | (go_at_call 101; with_reducible refine (HNM.out _).mono ?_; rintro e wn ⟨rfl, hbn⟩; rw [HV.out]; have X := X.below hbn zl; have hcur := hcur.trans (hbn.mono (Nat.le_of_lt zl)); have zl := Nat.lt_of_lt_of_le zl hbn.size; have Xq := X; obtain ⟨a0, a1, a2, a3, a4, a5, a6, a7⟩ := Xq)
            | (go_at_call 267; with_reducible refine (specIsD_u d B _ (hd.below (hcur.mono hB)) (Nat.le_trans hB hcur.size) hsz).mono ?_; rintro e wn ⟨rfl, hbn⟩; rw [HDV.out]; have X := X.below hbn zl; have hcur := hcur.trans (hbn.mono (Nat.le_of_lt zl)); have zl := Nat.lt_of_lt_of_le zl hbn.size; have Xq := X; obtain ⟨a0, a1, a2, a3, a4, a5, a6, a7⟩ := Xq)
            | (go_at_call 43; with_reducible refine (l1In_any _ _ _ _).mono ?_; rintro e wn ⟨rfl, hwn⟩; obtain rfl := hwn; rw [HI1.out])
            | (go_at_call 43; with_reducible refine (l1In_any _ _ _ _).mono ?_; rintro e wn ⟨rfl, hwn⟩; obtain rfl := hwn; rw [HI2.out]))
          go_ret
          exact ⟨by first | exact ret_bool HS.out.symm | exact ret_bool (by rw [HS.out]; simp; omega), by first | exact hcur | exact hcur.drew⟩
      · have HI1 : Hid (decide (2 ≤ (d.l.length : Int) ∧ (d.l.length : Int) ≤ 60) = false) := decide_eq_false q0
        have hS : d.a.shape d.l.length = false := by simp [Ko.shape, kKind, Ko.isVar, hk, qz, qn, q0]
        have HS := Lib.hid hS
        clear hS
        have H_hk := Lib.hid hk
        have H_qz := Lib.hid qz
        have H_qn := Lib.hid qn
        have H_q0 := Lib.hid q0
        have H_qn2 := Lib.hid qn2
        clear hk qz qn q0 qn2
        go_enter Tryz.func237, Tryz.ntmps237
        go_upto_region 1 with fail
        rw [← hW]
        clear hW
        have hk := H_hk.out
        have qz := H_qz.out
        have qn := H_qn.out
        have q0 := H_q0.out
        have qn2 := H_qn2.out
        go_wp2_with (first
          | (go_at_call 266; with_reducible refine (eqz_any d B _ (hd.below (hcur.mono hB)) (Nat.le_trans hB hcur.size)).mono ?_; rintro e wn ⟨rfl, hbn⟩; rw [HDZ.out]; have X := X.below hbn zl; have hcur := hcur.trans (hbn.mono (Nat.le_of_lt zl)); have zl := Nat.lt_of_lt_of_le zl hbn.size; have Xq := X; obtain ⟨a0, a1, a2, a3, a4, a5, a6, a7⟩ := Xq)
          | (go_at_call 101; with_reducible refine (HNM.out _).mono ?_; rintro e wn ⟨rfl, hbn⟩; rw [HV.out]; have X := X.below hbn zl; have hcur := hcur.trans (hbn.mono (Nat.le_of_lt zl)); have zl := Nat.lt_of_lt_of_le zl hbn.size; have Xq := X; obtain ⟨a0, a1, a2, a3, a4, a5, a6, a7⟩ := Xq)
          | (go_at_call 267; with_reducible refine (specIsD_u d B _ (hd.below (hcur.mono hB)) (Nat.le_trans hB hcur.size) hsz).mono ?_; rintro e wn ⟨rfl, hbn⟩; rw [HDV.out]; have X := X.below hbn zl; have hcur := hcur.trans (hbn.mono (Nat.le_of_lt zl)); have zl := Nat.lt_of_lt_of_le zl hbn.size; have Xq := X; obtain ⟨a0, a1, a2, a3, a4, a5, a6, a7⟩ := Xq)
          | (go_at_call 43; with_reducible refine (l1In_any _ _ _ _).mono ?_; rintro e wn ⟨rfl, hwn⟩; obtain rfl := hwn; rw [HI1.out])
          | (go_at_call 43; with_reducible refine (l1In_any _ _ _ _).mono ?_; rintro e wn ⟨rfl, hwn⟩; obtain rfl := hwn; rw [HI2.out]))
        go_ret
        exact ⟨by first | exact ret_bool HS.out.symm | exact ret_bool (by rw [HS.out]; simp; omega), by first | exact hcur | exact hcur.drew⟩
end Go.Proofs.YtpigpncbjckbcaaGreat
namespace Go.Proofs.YtpigpncbjckbcaaGreat
open Go.RowKit
set_option maxRecDepth 100000 in
set_option maxHeartbeats 600000 in
theorem shape9_any (d : Tr Ko) (B : Nat) (w : World) (hin : Ko.E.In w B d) (hB : B ≤ w.heap.size) (hsz : d.a.d.size ≤ 2000000) (hk : d.a.k = 9) : Calls Tryz.prog 237 #[Ko.val d] w fun e w' => e = .returned (.bool (d.a.shape d.l.length)) ∧ Below w.heap.size w w' := by
  have hd := (Ko.E_in hin).1.d
  obtain ⟨W, hW⟩ : ∃ W, W = w.alloc (.cells #[.int .i64 d.a.k, .int .i64 d.a.n, .slice d.a.sA d.a.s.length d.a.sC, .int .i64 d.a.d.k, .int .i64 d.a.d.n, .string d.a.d.t, .slice d.a.d.A d.a.d.l.length d.a.d.c, .slice d.A d.l.length d.c] 35) := ⟨_, rfl⟩
  have zW : W.heap.size = w.heap.size + 1 := by rw [hW]; simp
  have zl : w.heap.size < W.heap.size := by omega
  have hcur : Below w.heap.size w W := by rw [hW]; exact (Below.refl _ _).alloc (Nat.le_refl _) _
  have X : Ko.Box W w.heap.size d := by rw [hW]; exact Ko.Box.new _ _ _
  clear zW
  have HV : Hid (d.a.isVar = false) := by show _ = _; unfold Ko.isVar; rw [hk]; rfl
  have HNM : Hid (∀ w' : World, Calls Tryz.prog 101 #[.agg #[.int .i64 9, .int .i64 d.a.n, .slice d.a.sA d.a.s.length d.a.sC, .int .i64 d.a.d.k, .int .i64 d.a.d.n, .string d.a.d.t, .slice d.a.d.A d.a.d.l.length d.a.d.c, .slice d.A d.l.length d.c]] w' fun e w'' => e = .returned (.bool d.a.isVar) ∧ Below w'.heap.size w' w'') := fun w' => by
    have h := specNames_u d w'
    rwa [hk] at h
  unfold Ko.val
  have Xq := X
  obtain ⟨a0, a1, a2, a3, a4, a5, a6, a7⟩ := Xq
  cases qz : d.a.dz
  · have HDZ : Hid (D.eqB d.a.d zeroD = false) := qz
    have hS : d.a.shape d.l.length = false := by simp [Ko.shape, kKind, Ko.isVar, hk, qz]
    have HS := Lib.hid hS
    clear hS
    have H_hk := Lib.hid hk
    have H_qz := Lib.hid qz
    clear hk qz
    go_enter Tryz.func237, Tryz.ntmps237
    go_upto_region 1 with fail
    rw [← hW]
    clear hW
    have hk := H_hk.out
    have qz := H_qz.out
    go_wp2_with (first
      | (go_at_call 266; with_reducible refine (eqz_any d B _ (hd.below (hcur.mono hB)) (Nat.le_trans hB hcur.size)).mono ?_; rintro e wn ⟨rfl, hbn⟩; rw [HDZ.out]; have X := X.below hbn zl; have hcur := hcur.trans (hbn.mono (Nat.le_of_lt zl)); have zl := Nat.lt_of_lt_of_le zl hbn.size; have Xq := X; obtain ⟨a0, a1, a2, a3, a4, a5, a6, a7⟩ := Xq)
      | (go_at_call 101; with_reducible refine (HNM.out _).mono ?_; rintro e wn ⟨rfl, hbn⟩; rw [HV.out]; have X := X.below hbn zl; have hcur := hcur.trans (hbn.mono (Nat.le_of_lt zl)); have zl := Nat.lt_of_lt_of_le zl hbn.size; have Xq := X; obtain ⟨a0, a1, a2, a3, a4, a5, a6, a7⟩ := Xq)
      | (go_at_call 267; with_reducible refine (specIsD_u d B _ (hd.below (hcur.mono hB)) (Nat.le_trans hB hcur.size) hsz).mono ?_; rintro e wn ⟨rfl, hbn⟩; rw [HDV.out]; have X := X.below hbn zl; have hcur := hcur.trans (hbn.mono (Nat.le_of_lt zl)); have zl := Nat.lt_of_lt_of_le zl hbn.size; have Xq := X; obtain ⟨a0, a1, a2, a3, a4, a5, a6, a7⟩ := Xq)
      | (go_at_call 43; with_reducible refine (l1In_any _ _ _ _).mono ?_; rintro e wn ⟨rfl, hwn⟩; obtain rfl := hwn; rw [HI1.out])
      | (go_at_call 43; with_reducible refine (l1In_any _ _ _ _).mono ?_; rintro e wn ⟨rfl, hwn⟩; obtain rfl := hwn; rw [HI2.out]))
    go_ret
    exact ⟨by first | exact ret_bool HS.out.symm | exact ret_bool (by rw [HS.out]; simp; omega), by first | exact hcur | exact hcur.drew⟩
  · have HDZ : Hid (D.eqB d.a.d zeroD = true) := qz
    cases qn : (d.a.n == 0)
    · have qn2 : (d.a.n != 0) = true := by unfold bne; rw [qn]; rfl
      have hS : d.a.shape d.l.length = false := by simp [Ko.shape, kKind, Ko.isVar, hk, qz, qn]
      have HS := Lib.hid hS
      clear hS
      have H_hk := Lib.hid hk
      have H_qz := Lib.hid qz
      have H_qn := Lib.hid qn
      have H_qn2 := Lib.hid qn2
      clear hk qz qn qn2
      go_enter Tryz.func237, Tryz.ntmps237
      go_upto_region 1 with fail
      rw [← hW]
      clear hW
      have hk := H_hk.out
      have qz := H_qz.out
      have qn := H_qn.out
      have qn2 := H_qn2.out
      go_wp2_with (first
        | (go_at_call 266; with_reducible refine (eqz_any d B _ (hd.below (hcur.mono hB)) (Nat.le_trans hB hcur.size)).mono ?_; rintro e wn ⟨rfl, hbn⟩; rw [HDZ.out]; have X := X.below hbn zl; have hcur := hcur.trans (hbn.mono (Nat.le_of_lt zl)); have zl := Nat.lt_of_lt_of_le zl hbn.size; have Xq := X; obtain ⟨a0, a1, a2, a3, a4, a5, a6, a7⟩ := Xq)
        | (go_at_call 101; with_reducible refine (HNM.out _).mono ?_; rintro e wn ⟨rfl, hbn⟩; rw [HV.out]; have X := X.below hbn zl; have hcur := hcur.trans (hbn.mono (Nat.le_of_lt zl)); have zl := Nat.lt_of_lt_of_le zl hbn.size; have Xq := X; obtain ⟨a0, a1, a2, a3, a4, a5, a6, a7⟩ := Xq)
        | (go_at_call 267; with_reducible refine (specIsD_u d B _ (hd.below (hcur.mono hB)) (Nat.le_trans hB hcur.size) hsz).mono ?_; rintro e wn ⟨rfl, hbn⟩; rw [HDV.out]; have X := X.below hbn zl; have hcur := hcur.trans (hbn.mono (Nat.le_of_lt zl)); have zl := Nat.lt_of_lt_of_le zl hbn.size; have Xq := X; obtain ⟨a0, a1, a2, a3, a4, a5, a6, a7⟩ := Xq)
        | (go_at_call 43; with_reducible refine (l1In_any _ _ _ _).mono ?_; rintro e wn ⟨rfl, hwn⟩; obtain rfl := hwn; rw [HI1.out])
        | (go_at_call 43; with_reducible refine (l1In_any _ _ _ _).mono ?_; rintro e wn ⟨rfl, hwn⟩; obtain rfl := hwn; rw [HI2.out]))
      go_ret
      exact ⟨by first | exact ret_bool HS.out.symm | exact ret_bool (by rw [HS.out]; simp; omega), by first | exact hcur | exact hcur.drew⟩
    · have qn2 : (d.a.n != 0) = false := by unfold bne; rw [qn]; rfl
      by_cases q0 : (1 ≤ (d.l.length : Int) ∧ (d.l.length : Int) ≤ 60)
      · have HI1 : Hid (decide (1 ≤ (d.l.length : Int) ∧ (d.l.length : Int) ≤ 60) = true) := decide_eq_true q0
        by_cases q1 : (1 ≤ (d.a.s.length : Int) ∧ (d.a.s.length : Int) ≤ 60)
        · have HI2 : Hid (decide (1 ≤ (d.a.s.length : Int) ∧ (d.a.s.length : Int) ≤ 60) = true) := decide_eq_true q1
          have hS : d.a.shape d.l.length = true := by simp [Ko.shape, kKind, Ko.isVar, hk, qz, qn, q0, q1]
          have HS := Lib.hid hS
          clear hS
          have H_hk := Lib.hid hk
          have H_qz := Lib.hid qz
          have H_qn := Lib.hid qn
          have H_q0 := Lib.hid q0
          have H_q1 := Lib.hid q1
          have H_qn2 := Lib.hid qn2
          clear hk qz qn q0 q1 qn2
          go_enter Tryz.func237, Tryz.ntmps237
          go_upto_region 1 with fail
          rw [← hW]
          clear hW
          have hk := H_hk.out
          have qz := H_qz.out
          have qn := H_qn.out
          have q0 := H_q0.out
          have q1 := H_q1.out
          have qn2 := H_qn2.out
          go_wp2_with (first
            | (go_at_call 266; with_reducible refine (eqz_any d B _ (hd.below (hcur.mono hB)) (Nat.le_trans hB hcur.size)).mono ?_; rintro e wn ⟨rfl, hbn⟩; rw [HDZ.out]; have X := X.below hbn zl; have hcur := hcur.trans (hbn.mono (Nat.le_of_lt zl)); have zl := Nat.lt_of_lt_of_le zl hbn.size; have Xq := X; obtain ⟨a0, a1, a2, a3, a4, a5, a6, a7⟩ := Xq)
            | (go_at_call 101; with_reducible refine (HNM.out _).mono ?_; rintro e wn ⟨rfl, hbn⟩; rw [HV.out]; have X := X.below hbn zl; have hcur := hcur.trans (hbn.mono (Nat.le_of_lt zl)); have zl := Nat.lt_of_lt_of_le zl hbn.size; have Xq := X; obtain ⟨a0, a1, a2, a3, a4, a5, a6, a7⟩ := Xq)
            | (go_at_call 267; with_reducible refine (specIsD_u d B _ (hd.below (hcur.mono hB)) (Nat.le_trans hB hcur.size) hsz).mono ?_; rintro e wn ⟨rfl, hbn⟩; rw [HDV.out]; have X := X.below hbn zl; have hcur := hcur.trans (hbn.mono (Nat.le_of_lt zl)); have zl := Nat.lt_of_lt_of_le zl hbn.size; have Xq := X; obtain ⟨a0, a1, a2, a3, a4, a5, a6, a7⟩ := Xq)
            | (go_at_call 43; with_reducible refine (l1In_any _ _ _ _).mono ?_; rintro e wn ⟨rfl, hwn⟩; obtain rfl := hwn; rw [HI1.out])
            | (go_at_call 43; with_reducible refine (l1In_any _ _ _ _).mono ?_; rintro e wn ⟨rfl, hwn⟩; obtain rfl := hwn; rw [HI2.out]))
          go_ret
          exact ⟨by first | exact ret_bool HS.out.symm | exact ret_bool (by rw [HS.out]; simp; omega), by first | exact hcur | exact hcur.drew⟩
        · have HI2 : Hid (decide (1 ≤ (d.a.s.length : Int) ∧ (d.a.s.length : Int) ≤ 60) = false) := decide_eq_false q1
          have hS : d.a.shape d.l.length = false := by simp [Ko.shape, kKind, Ko.isVar, hk, qz, qn, q0, q1]
          have HS := Lib.hid hS
          clear hS
          have H_hk := Lib.hid hk
          have H_qz := Lib.hid qz
          have H_qn := Lib.hid qn
          have H_q0 := Lib.hid q0
          have H_q1 := Lib.hid q1
          have H_qn2 := Lib.hid qn2
          clear hk qz qn q0 q1 qn2
          go_enter Tryz.func237, Tryz.ntmps237
          go_upto_region 1 with fail
          rw [← hW]
          clear hW
          have hk := H_hk.out
          have qz := H_qz.out
          have qn := H_qn.out
          have q0 := H_q0.out
          have q1 := H_q1.out
          have qn2 := H_qn2.out
          go_wp2_with (first
            | (go_at_call 266; with_reducible refine (eqz_any d B _ (hd.below (hcur.mono hB)) (Nat.le_trans hB hcur.size)).mono ?_; rintro e wn ⟨rfl, hbn⟩; rw [HDZ.out]; have X := X.below hbn zl; have hcur := hcur.trans (hbn.mono (Nat.le_of_lt zl)); have zl := Nat.lt_of_lt_of_le zl hbn.size; have Xq := X; obtain ⟨a0, a1, a2, a3, a4, a5, a6, a7⟩ := Xq)
            | (go_at_call 101; with_reducible refine (HNM.out _).mono ?_; rintro e wn ⟨rfl, hbn⟩; rw [HV.out]; have X := X.below hbn zl; have hcur := hcur.trans (hbn.mono (Nat.le_of_lt zl)); have zl := Nat.lt_of_lt_of_le zl hbn.size; have Xq := X; obtain ⟨a0, a1, a2, a3, a4, a5, a6, a7⟩ := Xq)
            | (go_at_call 267; with_reducible refine (specIsD_u d B _ (hd.below (hcur.mono hB)) (Nat.le_trans hB hcur.size) hsz).mono ?_; rintro e wn ⟨rfl, hbn⟩; rw [HDV.out]; have X := X.below hbn zl; have hcur := hcur.trans (hbn.mono (Nat.le_of_lt zl)); have zl := Nat.lt_of_lt_of_le zl hbn.size; have Xq := X; obtain ⟨a0, a1, a2, a3, a4, a5, a6, a7⟩ := Xq)
            | (go_at_call 43; with_reducible refine (l1In_any _ _ _ _).mono ?_; rintro e wn ⟨rfl, hwn⟩; obtain rfl := hwn; rw [HI1.out])
            | (go_at_call 43; with_reducible refine (l1In_any _ _ _ _).mono ?_; rintro e wn ⟨rfl, hwn⟩; obtain rfl := hwn; rw [HI2.out]))
          go_ret
          exact ⟨by first | exact ret_bool HS.out.symm | exact ret_bool (by rw [HS.out]; simp; omega), by first | exact hcur | exact hcur.drew⟩
      · have HI1 : Hid (decide (1 ≤ (d.l.length : Int) ∧ (d.l.length : Int) ≤ 60) = false) := decide_eq_false q0
        have hS : d.a.shape d.l.length = false := by simp [Ko.shape, kKind, Ko.isVar, hk, qz, qn, q0]
        have HS := Lib.hid hS
        clear hS
        have H_hk := Lib.hid hk
        have H_qz := Lib.hid qz
        have H_qn := Lib.hid qn
        have H_q0 := Lib.hid q0
        have H_qn2 := Lib.hid qn2
        clear hk qz qn q0 qn2
        go_enter Tryz.func237, Tryz.ntmps237
        go_upto_region 1 with fail
        rw [← hW]
        clear hW
        have hk := H_hk.out
        have qz := H_qz.out
        have qn := H_qn.out
        have q0 := H_q0.out
        have qn2 := H_qn2.out
        go_wp2_with (first
          | (go_at_call 266; with_reducible refine (eqz_any d B _ (hd.below (hcur.mono hB)) (Nat.le_trans hB hcur.size)).mono ?_; rintro e wn ⟨rfl, hbn⟩; rw [HDZ.out]; have X := X.below hbn zl; have hcur := hcur.trans (hbn.mono (Nat.le_of_lt zl)); have zl := Nat.lt_of_lt_of_le zl hbn.size; have Xq := X; obtain ⟨a0, a1, a2, a3, a4, a5, a6, a7⟩ := Xq)
          | (go_at_call 101; with_reducible refine (HNM.out _).mono ?_; rintro e wn ⟨rfl, hbn⟩; rw [HV.out]; have X := X.below hbn zl; have hcur := hcur.trans (hbn.mono (Nat.le_of_lt zl)); have zl := Nat.lt_of_lt_of_le zl hbn.size; have Xq := X; obtain ⟨a0, a1, a2, a3, a4, a5, a6, a7⟩ := Xq)
          | (go_at_call 267; with_reducible refine (specIsD_u d B _ (hd.below (hcur.mono hB)) (Nat.le_trans hB hcur.size) hsz).mono ?_; rintro e wn ⟨rfl, hbn⟩; rw [HDV.out]; have X := X.below hbn zl; have hcur := hcur.trans (hbn.mono (Nat.le_of_lt zl)); have zl := Nat.lt_of_lt_of_le zl hbn.size; have Xq := X; obtain ⟨a0, a1, a2, a3, a4, a5, a6, a7⟩ := Xq)
          | (go_at_call 43; with_reducible refine (l1In_any _ _ _ _).mono ?_; rintro e wn ⟨rfl, hwn⟩; obtain rfl := hwn; rw [HI1.out])
          | (go_at_call 43; with_reducible refine (l1In_any _ _ _ _).mono ?_; rintro e wn ⟨rfl, hwn⟩; obtain rfl := hwn; rw [HI2.out]))
        go_ret
        exact ⟨by first | exact ret_bool HS.out.symm | exact ret_bool (by rw [HS.out]; simp; omega), by first | exact hcur | exact hcur.drew⟩
set_option maxRecDepth 100000 in
set_option maxHeartbeats 600000 in
theorem shape10_any (d : Tr Ko) (B : Nat) (w : World) (hin : Ko.E.In w B d) (hB : B ≤ w.heap.size) (hsz : d.a.d.size ≤ 2000000) (hk : d.a.k = 10) : Calls Tryz.prog 237 #[Ko.val d] w fun e w' => e = .returned (.bool (d.a.shape d.l.length)) ∧ Below w.heap.size w w' := by
  have hd := (Ko.E_in hin).1.d
  obtain ⟨W, hW⟩ : ∃ W, W = w.alloc (.cells #[.int .i64 d.a.k, .int .i64 d.a.n, .slice d.a.sA d.a.s.length d.a.sC, .int .i64 d.a.d.k, .int .i64 d.a.d.n, .string d.a.d.t, .slice d.a.d.A d.a.d.l.length d.a.d.c, .slice d.A d.l.length d.c] 35) := ⟨_, rfl⟩
  have zW : W.heap.size = w.heap.size + 1 := by rw [hW]; simp
  have zl : w.heap.size < W.heap.size := by omega
  have hcur : Below w.heap.size w W := by rw [hW]; exact (Below.refl _ _).alloc (Nat.le_refl _) _
  have X : Ko.Box W w.heap.size d := by rw [hW]; exact Ko.Box.new _ _ _
  clear zW
  have HV : Hid (d.a.isVar = false) := by show _ = _; unfold Ko.isVar; rw [hk]; rfl
  have HNM : Hid (∀ w' : World, Calls Tryz.prog 101 #[.agg #[.int .i64 10, .int .i64 d.a.n, .slice d.a.sA d.a.s.length d.a.sC, .int .i64 d.a.d.k, .int .i64 d.a.d.n, .string d.a.d.t, .slice d.a.d.A d.a.d.l.length d.a.d.c, .slice d.A d.l.length d.c]] w' fun e w'' => e = .returned (.bool d.a.isVar) ∧ Below w'.heap.size w' w'') := fun w' => by
    have h := specNames_u d w'
    rwa [hk] at h
  unfold Ko.val
  have Xq := X
  obtain ⟨a0, a1, a2, a3, a4, a5, a6, a7⟩ := Xq
  cases qz : d.a.dz
  · have HDZ : Hid (D.eqB d.a.d zeroD = false) := qz
    have hS : d.a.shape d.l.length = false := by simp [Ko.shape, kKind, Ko.isVar, hk, qz]
    have HS := Lib.hid hS
    clear hS
    have H_hk := Lib.hid hk
    have H_qz := Lib.hid qz
    clear hk qz
    go_enter Tryz.func237, Tryz.ntmps237
    go_upto_region 1 with fail
    rw [← hW]
    clear hW
    have hk := H_hk.out
    have qz := H_qz.out
    go_wp2_with (first
      | (go_at_call 266; with_reducible refine (eqz_any d B _ (hd.below (hcur.mono hB)) (Nat.le_trans hB hcur.size)).mono ?_; rintro e wn ⟨rfl, hbn⟩; rw [HDZ.out]; have X := X.below hbn zl; have hcur := hcur.trans (hbn.mono (Nat.le_of_lt zl)); have zl := Nat.lt_of_lt_of_le zl hbn.size; have Xq := X; obtain ⟨a0, a1, a2, a3, a4, a5, a6, a7⟩ := Xq)
      | (go_at_call 101; with_reducible refine (HNM.out _).mono ?_; rintro e wn ⟨rfl, hbn⟩; rw [HV.out]; have X := X.below hbn zl; have hcur := hcur.trans (hbn.mono (Nat.le_of_lt zl)); have zl := Nat.lt_of_lt_of_le zl hbn.size; have Xq := X; obtain ⟨a0, a1, a2, a3, a4, a5, a6, a7⟩ := Xq)
      | (go_at_call 267; with_reducible refine (specIsD_u d B _ (hd.below (hcur.mono hB)) (Nat.le_trans hB hcur.size) hsz).mono ?_; rintro e wn ⟨rfl, hbn⟩; rw [HDV.out]; have X := X.below hbn zl; have hcur := hcur.trans (hbn.mono (Nat.le_of_lt zl)); have zl := Nat.lt_of_lt_of_le zl hbn.size; have Xq := X; obtain ⟨a0, a1, a2, a3, a4, a5, a6, a7⟩ := Xq)
      | (go_at_call 43; with_reducible refine (l1In_any _ _ _ _).mono ?_; rintro e wn ⟨rfl, hwn⟩; obtain rfl := hwn; rw [HI1.out])
      | (go_at_call 43; with_reducible refine (l1In_any _ _ _ _).mono ?_; rintro e wn ⟨rfl, hwn⟩; obtain rfl := hwn; rw [HI2.out]))
    go_ret
    exact ⟨by first | exact ret_bool HS.out.symm | exact ret_bool (by rw [HS.out]; simp; omega), by first | exact hcur | exact hcur.drew⟩
  · have HDZ : Hid (D.eqB d.a.d zeroD = true) := qz
    cases qn : (d.a.n == 0)
    · have qn2 : (d.a.n != 0) = true := by unfold bne; rw [qn]; rfl
      have hS : d.a.shape d.l.length = false := by simp [Ko.shape, kKind, Ko.isVar, hk, qz, qn]
      have HS := Lib.hid hS
      clear hS
      have H_hk := Lib.hid hk
      have H_qz := Lib.hid qz
      have H_qn := Lib.hid qn
      have H_qn2 := Lib.hid qn2
      clear hk qz qn qn2
      go_enter Tryz.func237, Tryz.ntmps237
      go_upto_region 1 with fail
      rw [← hW]
      clear hW
      have hk := H_hk.out
      have qz := H_qz.out
      have qn := H_qn.out
      have qn2 := H_qn2.out
      go_wp2_with (first
        | (go_at_call 266; with_reducible refine (eqz_any d B _ (hd.below (hcur.mono hB)) (Nat.le_trans hB hcur.size)).mono ?_; rintro e wn ⟨rfl, hbn⟩; rw [HDZ.out]; have X := X.below hbn zl; have hcur := hcur.trans (hbn.mono (Nat.le_of_lt zl)); have zl := Nat.lt_of_lt_of_le zl hbn.size; have Xq := X; obtain ⟨a0, a1, a2, a3, a4, a5, a6, a7⟩ := Xq)
        | (go_at_call 101; with_reducible refine (HNM.out _).mono ?_; rintro e wn ⟨rfl, hbn⟩; rw [HV.out]; have X := X.below hbn zl; have hcur := hcur.trans (hbn.mono (Nat.le_of_lt zl)); have zl := Nat.lt_of_lt_of_le zl hbn.size; have Xq := X; obtain ⟨a0, a1, a2, a3, a4, a5, a6, a7⟩ := Xq)
        | (go_at_call 267; with_reducible refine (specIsD_u d B _ (hd.below (hcur.mono hB)) (Nat.le_trans hB hcur.size) hsz).mono ?_; rintro e wn ⟨rfl, hbn⟩; rw [HDV.out]; have X := X.below hbn zl; have hcur := hcur.trans (hbn.mono (Nat.le_of_lt zl)); have zl := Nat.lt_of_lt_of_le zl hbn.size; have Xq := X; obtain ⟨a0, a1, a2, a3, a4, a5, a6, a7⟩ := Xq)
        | (go_at_call 43; with_reducible refine (l1In_any _ _ _ _).mono ?_; rintro e wn ⟨rfl, hwn⟩; obtain rfl := hwn; rw [HI1.out])
        | (go_at_call 43; with_reducible refine (l1In_any _ _ _ _).mono ?_; rintro e wn ⟨rfl, hwn⟩; obtain rfl := hwn; rw [HI2.out]))
      go_ret
      exact ⟨by first | exact ret_bool HS.out.symm | exact ret_bool (by rw [HS.out]; simp; omega), by first | exact hcur | exact hcur.drew⟩
    · have qn2 : (d.a.n != 0) = false := by unfold bne; rw [qn]; rfl
      cases q0 : ((d.l.length : Int) == 1)
      · have hS : d.a.shape d.l.length = false := by simp [Ko.shape, kKind, Ko.isVar, hk, qz, qn, q0]
        have HS := Lib.hid hS
        clear hS
        have H_hk := Lib.hid hk
        have H_qz := Lib.hid qz
        have H_qn := Lib.hid qn
        have H_q0 := Lib.hid q0
        have H_qn2 := Lib.hid qn2
        clear hk qz qn q0 qn2
        go_enter Tryz.func237, Tryz.ntmps237
        go_upto_region 1 with fail
        rw [← hW]
        clear hW
        have hk := H_hk.out
        have qz := H_qz.out
        have qn := H_qn.out
        have q0 := H_q0.out
        have qn2 := H_qn2.out
        go_wp2_with (first
          | (go_at_call 266; with_reducible refine (eqz_any d B _ (hd.below (hcur.mono hB)) (Nat.le_trans hB hcur.size)).mono ?_; rintro e wn ⟨rfl, hbn⟩; rw [HDZ.out]; have X := X.below hbn zl; have hcur := hcur.trans (hbn.mono (Nat.le_of_lt zl)); have zl := Nat.lt_of_lt_of_le zl hbn.size; have Xq := X; obtain ⟨a0, a1, a2, a3, a4, a5, a6, a7⟩ := Xq)
          | (go_at_call 101; with_reducible refine (HNM.out _).mono ?_; rintro e wn ⟨rfl, hbn⟩; rw [HV.out]; have X := X.below hbn zl; have hcur := hcur.trans (hbn.mono (Nat.le_of_lt zl)); have zl := Nat.lt_of_lt_of_le zl hbn.size; have Xq := X; obtain ⟨a0, a1, a2, a3, a4, a5, a6, a7⟩ := Xq)
          | (go_at_call 267; with_reducible refine (specIsD_u d B _ (hd.below (hcur.mono hB)) (Nat.le_trans hB hcur.size) hsz).mono ?_; rintro e wn ⟨rfl, hbn⟩; rw [HDV.out]; have X := X.below hbn zl; have hcur := hcur.trans (hbn.mono (Nat.le_of_lt zl)); have zl := Nat.lt_of_lt_of_le zl hbn.size; have Xq := X; obtain ⟨a0, a1, a2, a3, a4, a5, a6, a7⟩ := Xq)
          | (go_at_call 43; with_reducible refine (l1In_any _ _ _ _).mono ?_; rintro e wn ⟨rfl, hwn⟩; obtain rfl := hwn; rw [HI1.out])
          | (go_at_call 43; with_reducible refine (l1In_any _ _ _ _).mono ?_; rintro e wn ⟨rfl, hwn⟩; obtain rfl := hwn; rw [HI2.out]))
        go_ret
        exact ⟨by first | exact ret_bool HS.out.symm | exact ret_bool (by rw [HS.out]; simp; omega), by first | exact hcur | exact hcur.drew⟩
      · cases q1 : ((d.a.s.length : Int) == 0)
        · have hS : d.a.shape d.l.length = false := by simp [Ko.shape, kKind, Ko.isVar, hk, qz, qn, q0, q1]
          have HS := Lib.hid hS
          clear hS
          have H_hk := Lib.hid hk
          have H_qz := Lib.hid qz
          have H_qn := Lib.hid qn
          have H_q0 := Lib.hid q0
          have H_q1 := Lib.hid q1
          have H_qn2 := Lib.hid qn2
          clear hk qz qn q0 q1 qn2
          go_enter Tryz.func237, Tryz.ntmps237
          go_upto_region 1 with fail
          rw [← hW]
          clear hW
          have hk := H_hk.out
          have qz := H_qz.out
          have qn := H_qn.out
          have q0 := H_q0.out
          have q1 := H_q1.out
          have qn2 := H_qn2.out
          go_wp2_with (first
            | (go_at_call 266; with_reducible refine (eqz_any d B _ (hd.below (hcur.mono hB)) (Nat.le_trans hB hcur.size)).mono ?_; rintro e wn ⟨rfl, hbn⟩; rw [HDZ.out]; have X := X.below hbn zl; have hcur := hcur.trans (hbn.mono (Nat.le_of_lt zl)); have zl := Nat.lt_of_lt_of_le zl hbn.size; have Xq := X; obtain ⟨a0, a1, a2, a3, a4, a5, a6, a7⟩ := Xq)
            | (go_at_call 101; with_reducible refine (HNM.out _).mono ?_; rintro e wn ⟨rfl, hbn⟩; rw [HV.out]; have X := X.below hbn zl; have hcur := hcur.trans (hbn.mono (Nat.le_of_lt zl)); have zl := Nat.lt_of_lt_of_le zl hbn.size; have Xq := X; obtain ⟨a0, a1, a2, a3, a4, a5, a6, a7⟩ := Xq)
            | (go_at_call 267; with_reducible refine (specIsD_u d B _ (hd.below (hcur.mono hB)) (Nat.le_trans hB hcur.size) hsz).mono ?_; rintro e wn ⟨rfl, hbn⟩; rw [HDV.out]; have X := X.below hbn zl; have hcur := hcur.trans (hbn.mono (Nat.le_of_lt zl)); have zl := Nat.lt_of_lt_of_le zl hbn.size; have Xq := X; obtain ⟨a0, a1, a2, a3, a4, a5, a6, a7⟩ := Xq)
            | (go_at_call 43; with_reducible refine (l1In_any _ _ _ _).mono ?_; rintro e wn ⟨rfl, hwn⟩; obtain rfl := hwn; rw [HI1.out])
            | (go_at_call 43; with_reducible refine (l1In_any _ _ _ _).mono ?_; rintro e wn ⟨rfl, hwn⟩; obtain rfl := hwn; rw [HI2.out]))
          go_ret
          exact ⟨by first | exact ret_bool HS.out.symm | exact ret_bool (by rw [HS.out]; simp; omega), by first | exact hcur | exact hcur.drew⟩
        · have hS : d.a.shape d.l.length = true := by simp [Ko.shape, kKind, Ko.isVar, hk, qz, qn, q0, q1]
          have HS := Lib.hid hS
          clear hS
          have H_hk := Lib.hid hk
          have H_qz := Lib.hid qz
          have H_qn := Lib.hid qn
          have H_q0 := Lib.hid q0
          have H_q1 := Lib.hid q1
          have H_qn2 := Lib.hid qn2
          clear hk qz qn q0 q1 qn2
          go_enter Tryz.func237, Tryz.ntmps237
          go_upto_region 1 with fail
          rw [← hW]
          clear hW
          have hk := H_hk.out
          have qz := H_qz.out
          have qn := H_qn.out
          have q0 := H_q0.out
          have q1 := H_q1.out
          have qn2 := H_qn2.out
          go_wp2_with (first
            | (go_at_call 266; with_reducible refine (eqz_any d B _ (hd.below (hcur.mono hB)) (Nat.le_trans hB hcur.size)).mono ?_; rintro e wn ⟨rfl, hbn⟩; rw [HDZ.out]; have X := X.below hbn zl; have hcur := hcur.trans (hbn.mono (Nat.le_of_lt zl)); have zl := Nat.lt_of_lt_of_le zl hbn.size; have Xq := X; obtain ⟨a0, a1, a2, a3, a4, a5, a6, a7⟩ := Xq)
            | (go_at_call 101; with_reducible refine (HNM.out _).mono ?_; rintro e wn ⟨rfl, hbn⟩; rw [HV.out]; have X := X.below hbn zl; have hcur := hcur.trans (hbn.mono (Nat.le_of_lt zl)); have zl := Nat.lt_of_lt_of_le zl hbn.size; have Xq := X; obtain ⟨a0, a1, a2, a3, a4, a5, a6, a7⟩ := Xq)
            | (go_at_call 267; with_reducible refine (specIsD_u d B _ (hd.below (hcur.mono hB)) (Nat.le_trans hB hcur.size) hsz).mono ?_; rintro e wn ⟨rfl, hbn⟩; rw [HDV.out]; have X := X.below hbn zl; have hcur := hcur.trans (hbn.mono (Nat.le_of_lt zl)); have zl := Nat.lt_of_lt_of_le zl hbn.size; have Xq := X; obtain ⟨a0, a1, a2, a3, a4, a5, a6, a7⟩ := Xq)
            | (go_at_call 43; with_reducible refine (l1In_any _ _ _ _).mono ?_; rintro e wn ⟨rfl, hwn⟩; obtain rfl := hwn; rw [HI1.out])
            | (go_at_call 43; with_reducible refine (l1In_any _ _ _ _).mono ?_; rintro e wn ⟨rfl, hwn⟩; obtain rfl := hwn; rw [HI2.out]))
          go_ret
          exact ⟨by first | exact ret_bool HS.out.symm | exact ret_bool (by rw [HS.out]; simp; omega), by first | exact hcur | exact hcur.drew⟩
set_option maxRecDepth 100000 in
set_option maxHeartbeats 600000 in
theorem shape11_any (d : Tr Ko) (B : Nat) (w : World) (hin : Ko.E.In w B d) (hB : B ≤ w.heap.size) (hsz : d.a.d.size ≤ 2000000) (hk : d.a.k = 11) : Calls Tryz.prog 237 #[Ko.val d] w fun e w' => e = .returned (.bool (d.a.shape d.l.length)) ∧ Below w.heap.size w w' := by
  have hd := (Ko.E_in hin).1.d
  obtain ⟨W, hW⟩ : ∃ W, W = w.alloc (.cells #[.int .i64 d.a.k, .int .i64 d.a.n, .slice d.a.sA d.a.s.length d.a.sC, .int .i64 d.a.d.k, .int .i64 d.a.d.n, .string d.a.d.t, .slice d.a.d.A d.a.d.l.length d.a.d.c, .slice d.A d.l.length d.c] 35) := ⟨_, rfl⟩
  have zW : W.heap.size = w.heap.size + 1 := by rw [hW]; simp
  have zl : w.heap.size < W.heap.size := by omega
  have hcur : Below w.heap.size w W := by rw [hW]; exact (Below.refl _ _).alloc (Nat.le_refl _) _
  have X : Ko.Box W w.heap.size d := by rw [hW]; exact Ko.Box.new _ _ _
  clear zW
  have HV : Hid (d.a.isVar = false) := by show _ = _; unfold Ko.isVar; rw [hk]; rfl
  have HNM : Hid (∀ w' : World, Calls Tryz.prog 101 #[.agg #[.int .i64 11, .int .i64 d.a.n, .slice d.a.sA d.a.s.length d.a.sC, .int .i64 d.a.d.k, .int .i64 d.a.d.n, .string d.a.d.t, .slice d.a.d.A d.a.d.l.length d.a.d.c, .slice d.A d.l.length d.c]] w' fun e w'' => e = .returned (.bool d.a.isVar) ∧ Below w'.heap.size w' w'') := fun w' => by
    have h := specNames_u d w'
    rwa [hk] at h
  unfold Ko.val
  have Xq := X
  obtain ⟨a0, a1, a2, a3, a4, a5, a6, a7⟩ := Xq
  cases qz : d.a.dz
  · have HDZ : Hid (D.eqB d.a.d zeroD = false) := qz
    have hS : d.a.shape d.l.length = false := by simp [Ko.shape, kKind, Ko.isVar, hk, qz]
    have HS := Lib.hid hS
    clear hS
    have H_hk := Lib.hid hk
    have H_qz := Lib.hid qz
    clear hk qz
    go_enter Tryz.func237, Tryz.ntmps237
    go_upto_region 1 with fail
    rw [← hW]
    clear hW
    have hk := H_hk.out
    have qz := H_qz.out
    go_wp2_with (first
      | (go_at_call 266; with_reducible refine (eqz_any d B _ (hd.below (hcur.mono hB)) (Nat.le_trans hB hcur.size)).mono ?_; rintro e wn ⟨rfl, hbn⟩; rw [HDZ.out]; have X := X.below hbn zl; have hcur := hcur.trans (hbn.mono (Nat.le_of_lt zl)); have zl := Nat.lt_of_lt_of_le zl hbn.size; have Xq := X; obtain ⟨a0, a1, a2, a3, a4, a5, a6, a7⟩ := Xq)
      | (go_at_call 101; with_reducible refine (HNM.out _).mono ?_; rintro e wn ⟨rfl, hbn⟩; rw [HV.out]; have X := X.below hbn zl; have hcur := hcur.trans (hbn.mono (Nat.le_of_lt zl)); have zl := Nat.lt_of_lt_of_le zl hbn.size; have Xq := X; obtain ⟨a0, a1, a2, a3, a4, a5, a6, a7⟩ := Xq)
      | (go_at_call 267; with_reducible refine (specIsD_u d B _ (hd.below (hcur.mono hB)) (Nat.le_trans hB hcur.size) hsz).mono ?_; rintro e wn ⟨rfl, hbn⟩; rw [HDV.out]; have X := X.below hbn zl; have hcur := hcur.trans (hbn.mono (Nat.le_of_lt zl)); have zl := Nat.lt_of_lt_of_le zl hbn.size; have Xq := X; obtain ⟨a0, a1, a2, a3, a4, a5, a6, a7⟩ := Xq)
      | (go_at_call 43; with_reducible refine (l1In_any _ _ _ _).mono ?_; rintro e wn ⟨rfl, hwn⟩; obtain rfl := hwn; rw [HI1.out])
      | (go_at_call 43; with_reducible refine (l1In_any _ _ _ _).mono ?_; rintro e wn ⟨rfl, hwn⟩; obtain rfl := hwn; rw [HI2.out]))
    go_ret
    exact ⟨by first | exact ret_bool HS.out.symm | exact ret_bool (by rw [HS.out]; simp; omega), by first | exact hcur | exact hcur.drew⟩
  · have HDZ : Hid (D.eqB d.a.d zeroD = true) := qz
    cases qn : (d.a.n == 0)
    · have qn2 : (d.a.n != 0) = true := by unfold bne; rw [qn]; rfl
      have hS : d.a.shape d.l.length = false := by simp [Ko.shape, kKind, Ko.isVar, hk, qz, qn]
      have HS := Lib.hid hS
      clear hS
      have H_hk := Lib.hid hk
      have H_qz := Lib.hid qz
      have H_qn := Lib.hid qn
      have H_qn2 := Lib.hid qn2
      clear hk qz qn qn2
      go_enter Tryz.func237, Tryz.ntmps237
      go_upto_region 1 with fail
      rw [← hW]
      clear hW
      have hk := H_hk.out
      have qz := H_qz.out
      have qn := H_qn.out
      have qn2 := H_qn2.out
      go_wp2_with (first
        | (go_at_call 266; with_reducible refine (eqz_any d B _ (hd.below (hcur.mono hB)) (Nat.le_trans hB hcur.size)).mono ?_; rintro e wn ⟨rfl, hbn⟩; rw [HDZ.out]; have X := X.below hbn zl; have hcur := hcur.trans (hbn.mono (Nat.le_of_lt zl)); have zl := Nat.lt_of_lt_of_le zl hbn.size; have Xq := X; obtain ⟨a0, a1, a2, a3, a4, a5, a6, a7⟩ := Xq)
        | (go_at_call 101; with_reducible refine (HNM.out _).mono ?_; rintro e wn ⟨rfl, hbn⟩; rw [HV.out]; have X := X.below hbn zl; have hcur := hcur.trans (hbn.mono (Nat.le_of_lt zl)); have zl := Nat.lt_of_lt_of_le zl hbn.size; have Xq := X; obtain ⟨a0, a1, a2, a3, a4, a5, a6, a7⟩ := Xq)
        | (go_at_call 267; with_reducible refine (specIsD_u d B _ (hd.below (hcur.mono hB)) (Nat.le_trans hB hcur.size) hsz).mono ?_; rintro e wn ⟨rfl, hbn⟩; rw [HDV.out]; have X := X.below hbn zl; have hcur := hcur.trans (hbn.mono (Nat.le_of_lt zl)); have zl := Nat.lt_of_lt_of_le zl hbn.size; have Xq := X; obtain ⟨a0, a1, a2, a3, a4, a5, a6, a7⟩ := Xq)
        | (go_at_call 43; with_reducible refine (l1In_any _ _ _ _).mono ?_; rintro e wn ⟨rfl, hwn⟩; obtain rfl := hwn; rw [HI1.out])
        | (go_at_call 43; with_reducible refine (l1In_any _ _ _ _).mono ?_; rintro e wn ⟨rfl, hwn⟩; obtain rfl := hwn; rw [HI2.out]))
      go_ret
      exact ⟨by first | exact ret_bool HS.out.symm | exact ret_bool (by rw [HS.out]; simp; omega), by first | exact hcur | exact hcur.drew⟩
    · have qn2 : (d.a.n != 0) = false := by unfold bne; rw [qn]; rfl
      cases q0 : ((d.l.length : Int) == 1)
      · have hS : d.a.shape d.l.length = false := by simp [Ko.shape, kKind, Ko.isVar, hk, qz, qn, q0]
        have HS := Lib.hid hS
        clear hS
        have H_hk := Lib.hid hk
        have H_qz := Lib.hid qz
        have H_qn := Lib.hid qn
        have H_q0 := Lib.hid q0
        have H_qn2 := Lib.hid qn2
        clear hk qz qn q0 qn2
        go_enter Tryz.func237, Tryz.ntmps237
        go_upto_region 1 with fail
        rw [← hW]
        clear hW
        have hk := H_hk.out
        have qz := H_qz.out
        have qn := H_qn.out
        have q0 := H_q0.out
        have qn2 := H_qn2.out
        go_wp2_with (first
          | (go_at_call 266; with_reducible refine (eqz_any d B _ (hd.below (hcur.mono hB)) (Nat.le_trans hB hcur.size)).mono ?_; rintro e wn ⟨rfl, hbn⟩; rw [HDZ.out]; have X := X.below hbn zl; have hcur := hcur.trans (hbn.mono (Nat.le_of_lt zl)); have zl := Nat.lt_of_lt_of_le zl hbn.size; have Xq := X; obtain ⟨a0, a1, a2, a3, a4, a5, a6, a7⟩ := Xq)
          | (go_at_call 101; with_reducible refine (HNM.out _).mono ?_; rintro e wn ⟨rfl, hbn⟩; rw [HV.out]; have X := X.below hbn zl; have hcur := hcur.trans (hbn.mono (Nat.le_of_lt zl)); have zl := Nat.lt_of_lt_of_le zl hbn.size; have Xq := X; obtain ⟨a0, a1, a2, a3, a4, a5, a6, a7⟩ := Xq)
          | (go_at_call 267; with_reducible refine (specIsD_u d B _ (hd.below (hcur.mono hB)) (Nat.le_trans hB hcur.size) hsz).mono ?_; rintro e wn ⟨rfl, hbn⟩; rw [HDV.out]; have X := X.below hbn zl; have hcur := hcur.trans (hbn.mono (Nat.le_of_lt zl)); have zl := Nat.lt_of_lt_of_le zl hbn.size; have Xq := X; obtain ⟨a0, a1, a2, a3, a4, a5, a6, a7⟩ := Xq)
          | (go_at_call 43; with_reducible refine (l1In_any _ _ _ _).mono ?_; rintro e wn ⟨rfl, hwn⟩; obtain rfl := hwn; rw [HI1.out])
          | (go_at_call 43; with_reducible refine (l1In_any _ _ _ _).mono ?_; rintro e wn ⟨rfl, hwn⟩; obtain rfl := hwn; rw [HI2.out]))
        go_ret
        exact ⟨by first | exact ret_bool HS.out.symm | exact ret_bool (by rw [HS.out]; simp; omega), by first | exact hcur | exact hcur.drew⟩
      · cases q1 : ((d.a.s.length : Int) == 1)
        · have hS : d.a.shape d.l.length = false := by simp [Ko.shape, kKind, Ko.isVar, hk, qz, qn, q0, q1]
          have HS := Lib.hid hS
          clear hS
          have H_hk := Lib.hid hk
          have H_qz := Lib.hid qz
          have H_qn := Lib.hid qn
          have H_q0 := Lib.hid q0
          have H_q1 := Lib.hid q1
          have H_qn2 := Lib.hid qn2
          clear hk qz qn q0 q1 qn2
          go_enter Tryz.func237, Tryz.ntmps237
          go_upto_region 1 with fail
          rw [← hW]
          clear hW
          have hk := H_hk.out
          have qz := H_qz.out
          have qn := H_qn.out
          have q0 := H_q0.out
          have q1 := H_q1.out
          have qn2 := H_qn2.out
          go_wp2_with (first
            | (go_at_call 266; with_reducible refine (eqz_any d B _ (hd.below (hcur.mono hB)) (Nat.le_trans hB hcur.size)).mono ?_; rintro e wn ⟨rfl, hbn⟩; rw [HDZ.out]; have X := X.below hbn zl; have hcur := hcur.trans (hbn.mono (Nat.le_of_lt zl)); have zl := Nat.lt_of_lt_of_le zl hbn.size; have Xq := X; obtain ⟨a0, a1, a2, a3, a4, a5, a6, a7⟩ := Xq)
            | (go_at_call 101; with_reducible refine (HNM.out _).mono ?_; rintro e wn ⟨rfl, hbn⟩; rw [HV.out]; have X := X.below hbn zl; have hcur := hcur.trans (hbn.mono (Nat.le_of_lt zl)); have zl := Nat.lt_of_lt_of_le zl hbn.size; have Xq := X; obtain ⟨a0, a1, a2, a3, a4, a5, a6, a7⟩ := Xq)
            | (go_at_call 267; with_reducible refine (specIsD_u d B _ (hd.below (hcur.mono hB)) (Nat.le_trans hB hcur.size) hsz).mono ?_; rintro e wn ⟨rfl, hbn⟩; rw [HDV.out]; have X := X.below hbn zl; have hcur := hcur.trans (hbn.mono (Nat.le_of_lt zl)); have zl := Nat.lt_of_lt_of_le zl hbn.size; have Xq := X; obtain ⟨a0, a1, a2, a3, a4, a5, a6, a7⟩ := Xq)
            | (go_at_call 43; with_reducible refine (l1In_any _ _ _ _).mono ?_; rintro e wn ⟨rfl, hwn⟩; obtain rfl := hwn; rw [HI1.out])
            | (go_at_call 43; with_reducible refine (l1In_any _ _ _ _).mono ?_; rintro e wn ⟨rfl, hwn⟩; obtain rfl := hwn; rw [HI2.out]))
          go_ret
          exact ⟨by first | exact ret_bool HS.out.symm | exact ret_bool (by rw [HS.out]; simp; omega), by first | exact hcur | exact hcur.drew⟩
        · have hS : d.a.shape d.l.length = true := by simp [Ko.shape, kKind, Ko.isVar, hk, qz, qn, q0, q1]
          have HS := Lib.hid hS
          clear hS
          have H_hk := Lib.hid hk
          have H_qz := Lib.hid qz
          have H_qn := Lib.hid qn
          have H_q0 := Lib.hid q0
          have H_q1 := Lib.hid q1
          have H_qn2 := Lib.hid qn2
          clear hk qz qn q0 q1 qn2
          go_enter Tryz.func237, Tryz.ntmps237
          go_upto_region 1 with fail
          rw [← hW]
          clear hW
          have hk := H_hk.out
          have qz := H_qz.out
          have qn := H_qn.out
          have q0 := H_q0.out
          have q1 := H_q1.out
          have qn2 := H_qn2.out
          go_wp2_with (first
            | (go_at_call 266; with_reducible refine (eqz_any d B _ (hd.below (hcur.mono hB)) (Nat.le_trans hB hcur.size)).mono ?_; rintro e wn ⟨rfl, hbn⟩; rw [HDZ.out]; have X := X.below hbn zl; have hcur := hcur.trans (hbn.mono (Nat.le_of_lt zl)); have zl := Nat.lt_of_lt_of_le zl hbn.size; have Xq := X; obtain ⟨a0, a1, a2, a3, a4, a5, a6, a7⟩ := Xq)
            | (go_at_call 101; with_reducible refine (HNM.out _).mono ?_; rintro e wn ⟨rfl, hbn⟩; rw [HV.out]; have X := X.below hbn zl; have hcur := hcur.trans (hbn.mono (Nat.le_of_lt zl)); have zl := Nat.lt_of_lt_of_le zl hbn.size; have Xq := X; obtain ⟨a0, a1, a2, a3, a4, a5, a6, a7⟩ := Xq)
            | (go_at_call 267; with_reducible refine (specIsD_u d B _ (hd.below (hcur.mono hB)) (Nat.le_trans hB hcur.size) hsz).mono ?_; rintro e wn ⟨rfl, hbn⟩; rw [HDV.out]; have X := X.below hbn zl; have hcur := hcur.trans (hbn.mono (Nat.le_of_lt zl)); have zl := Nat.lt_of_lt_of_le zl hbn.size; have Xq := X; obtain ⟨a0, a1, a2, a3, a4, a5, a6, a7⟩ := Xq)
            | (go_at_call 43; with_reducible refine (l1In_any _ _ _ _).mono ?_; rintro e wn ⟨rfl, hwn⟩; obtain rfl := hwn; rw [HI1.out])
            | (go_at_call 43; with_reducible refine (l1In_any _ _ _ _).mono ?_; rintro e wn ⟨rfl, hwn⟩; obtain rfl := hwn; rw [HI2.out]))
          go_ret
          exact ⟨by first | exact ret_bool HS.out.symm | exact ret_bool (by rw [HS.out]; simp; omega), by first | exact hcur | exact hcur.drew⟩
end Go.Proofs.YtpigpncbjckbcaaGreat
namespace Go.Proofs.YtpigpncbjckbcaaGreat
open Go.RowKit
set_option maxRecDepth 100000 in
set_option maxHeartbeats 1000000 in
theorem shapeX_any (d : Tr Ko) (B : Nat) (w : World) (hin : Ko.E.In w B d) (hB : B ≤ w.heap.size) (hk : d.a.k ≠ 1 ∧ d.a.k ≠ 2 ∧ d.a.k ≠ 3 ∧ d.a.k ≠ 4 ∧ d.a.k ≠ 5 ∧ d.a.k ≠ 6 ∧ d.a.k ≠ 7 ∧ d.a.k ≠ 8 ∧ d.a.k ≠ 9 ∧ d.a.k ≠ 10 ∧ d.a.k ≠ 11) : Calls Tryz.prog 237 #[Ko.val d] w fun e w' => e = .returned (.bool (d.a.shape d.l.length)) ∧ Below w.heap.size w w' := by
  have hd := (Ko.E_in hin).1.d
  obtain ⟨k1, k2, k3, k4, k5, k6, k7, k8, k9, k10, k11⟩ := hk
  obtain ⟨W, hW⟩ : ∃ W, W = w.alloc (.cells #[.int .i64 d.a.k, .int .i64 d.a.n, .slice d.a.sA d.a.s.length d.a.sC, .int .i64 d.a.d.k, .int .i64 d.a.d.n, .string d.a.d.t, .slice d.a.d.A d.a.d.l.length d.a.d.c, .slice d.A d.l.length d.c] 35) := ⟨_, rfl⟩
  have zW : W.heap.size = w.heap.size + 1 := by rw [hW]; simp
  have zl : w.heap.size < W.heap.size := by omega
  have hcur : Below w.heap.size w W := by rw [hW]; exact (Below.refl _ _).alloc (Nat.le_refl _) _
  have X : Ko.Box W w.heap.size d := by rw [hW]; exact Ko.Box.new _ _ _
  clear zW
  have hS : d.a.shape d.l.length = false := by simp [Ko.shape, kKind, k1, k2, k3, k4, k5, k6, k7, k8, k9, k10, k11]
  have HS := Lib.hid hS
  have HV : Hid (d.a.isVar = false) := by show _ = _; unfold Ko.isVar; simp [k2, k4]
  have HNM : Hid (∀ w' : World, Calls Tryz.prog 101 #[.agg #[.int .i64 d.a.k, .int .i64 d.a.n, .slice d.a.sA d.a.s.length d.a.sC, .int .i64 d.a.d.k, .int .i64 d.a.d.n, .string d.a.d.t, .slice d.a.d.A d.a.d.l.length d.a.d.c, .slice d.A d.l.length d.c]] w' fun e w'' => e = .returned (.bool d.a.isVar) ∧ Below w'.heap.size w' w'') := fun w' => specNames_u d w'
  have j1 : (d.a.k == 1) = false := by simp [k1]
  have j2 : (d.a.k == 2) = false := by simp [k2]
  have j3 : (d.a.k == 3) = false := by simp [k3]
  have j4 : (d.a.k == 4) = false := by simp [k4]
  have j5 : (d.a.k == 5) = false := by simp [k5]
  have j6 : (d.a.k == 6) = false := by simp [k6]
  have j7 : (d.a.k == 7) = false := by simp [k7]
  have j8 : (d.a.k == 8) = false := by simp [k8]
  have j9 : (d.a.k == 9) = false := by simp [k9]
  have j10 : (d.a.k == 10) = false := by simp [k10]
  have j11 : (d.a.k == 11) = false := by simp [k11]
  have i1 : (d.a.k != 1) = true := by unfold bne; rw [j1]; rfl
  have i3 : (d.a.k != 3) = true := by unfold bne; rw [j3]; rfl
  clear hS k1 k2 k3 k4 k5 k6 k7 k8 k9 k10 k11
  unfold Ko.val
  have Xq := X
  obtain ⟨a0, a1, a2, a3, a4, a5, a6, a7⟩ := Xq
  cases qz : d.a.dz
  · have HDZ : Hid (D.eqB d.a.d zeroD = false) := qz
    go_enter Tryz.func237, Tryz.ntmps237
    go_upto_region 1 with fail
    rw [← hW]
    clear hW
    go_wp2_with (first
      | (go_at_call 266; with_reducible refine (eqz_any d B _ (hd.below (hcur.mono hB)) (Nat.le_trans hB hcur.size)).mono ?_; rintro e wn ⟨rfl, hbn⟩; rw [HDZ.out]; have X := X.below hbn zl; have hcur := hcur.trans (hbn.mono (Nat.le_of_lt zl)); have zl := Nat.lt_of_lt_of_le zl hbn.size; have Xq := X; obtain ⟨a0, a1, a2, a3, a4, a5, a6, a7⟩ := Xq)
      | (go_at_call 101; with_reducible refine (HNM.out _).mono ?_; rintro e wn ⟨rfl, hbn⟩; rw [HV.out]; have X := X.below hbn zl; have hcur := hcur.trans (hbn.mono (Nat.le_of_lt zl)); have zl := Nat.lt_of_lt_of_le zl hbn.size; have Xq := X; obtain ⟨a0, a1, a2, a3, a4, a5, a6, a7⟩ := Xq)
      | (go_at_call 267; with_reducible refine (specIsD_u d B _ (hd.below (hcur.mono hB)) (Nat.le_trans hB hcur.size) hsz).mono ?_; rintro e wn ⟨rfl, hbn⟩; rw [HDV.out]; have X := X.below hbn zl; have hcur := hcur.trans (hbn.mono (Nat.le_of_lt zl)); have zl := Nat.lt_of_lt_of_le zl hbn.size; have Xq := X; obtain ⟨a0, a1, a2, a3, a4, a5, a6, a7⟩ := Xq)
      | (go_at_call 43; with_reducible refine (l1In_any _ _ _ _).mono ?_; rintro e wn ⟨rfl, hwn⟩; obtain rfl := hwn; rw [HI1.out])
      | (go_at_call 43; with_reducible refine (l1In_any _ _ _ _).mono ?_; rintro e wn ⟨rfl, hwn⟩; obtain rfl := hwn; rw [HI2.out]))
    go_ret
    exact ⟨ret_bool HS.out.symm, hcur⟩
  · have HDZ : Hid (D.eqB d.a.d zeroD = true) := qz
    cases qn : (d.a.n == 0)
    · have qn2 : (d.a.n != 0) = true := by unfold bne; rw [qn]; rfl
      have H_qn2 := Lib.hid qn2
      clear qn qn2
      go_enter Tryz.func237, Tryz.ntmps237
      go_upto_region 1 with fail
      rw [← hW]
      clear hW
      have qn2 := H_qn2.out
      go_wp2_with (first
        | (go_at_call 266; with_reducible refine (eqz_any d B _ (hd.below (hcur.mono hB)) (Nat.le_trans hB hcur.size)).mono ?_; rintro e wn ⟨rfl, hbn⟩; rw [HDZ.out]; have X := X.below hbn zl; have hcur := hcur.trans (hbn.mono (Nat.le_of_lt zl)); have zl := Nat.lt_of_lt_of_le zl hbn.size; have Xq := X; obtain ⟨a0, a1, a2, a3, a4, a5, a6, a7⟩ := Xq)
        | (go_at_call 101; with_reducible refine (HNM.out _).mono ?_; rintro e wn ⟨rfl, hbn⟩; rw [HV.out]; have X := X.below hbn zl; have hcur := hcur.trans (hbn.mono (Nat.le_of_lt zl)); have zl := Nat.lt_of_lt_of_le zl hbn.size; have Xq := X; obtain ⟨a0, a1, a2, a3, a4, a5, a6, a7⟩ := Xq)
        | (go_at_call 267; with_reducible refine (specIsD_u d B _ (hd.below (hcur.mono hB)) (Nat.le_trans hB hcur.size) hsz).mono ?_; rintro e wn ⟨rfl, hbn⟩; rw [HDV.out]; have X := X.below hbn zl; have hcur := hcur.trans (hbn.mono (Nat.le_of_lt zl)); have zl := Nat.lt_of_lt_of_le zl hbn.size; have Xq := X; obtain ⟨a0, a1, a2, a3, a4, a5, a6, a7⟩ := Xq)
        | (go_at_call 43; with_reducible refine (l1In_any _ _ _ _).mono ?_; rintro e wn ⟨rfl, hwn⟩; obtain rfl := hwn; rw [HI1.out])
        | (go_at_call 43; with_reducible refine (l1In_any _ _ _ _).mono ?_; rintro e wn ⟨rfl, hwn⟩; obtain rfl := hwn; rw [HI2.out]))
      go_ret
      exact ⟨ret_bool HS.out.symm, hcur⟩
    · have qn2 : (d.a.n != 0) = false := by unfold bne; rw [qn]; rfl
      have H_qn2 := Lib.hid qn2
      clear qn qn2
      go_enter Tryz.func237, Tryz.ntmps237
      go_upto_region 1 with fail
      rw [← hW]
      clear hW
      have qn2 := H_qn2.out
      go_wp2_with (first
        | (go_at_call 266; with_reducible refine (eqz_any d B _ (hd.below (hcur.mono hB)) (Nat.le_trans hB hcur.size)).mono ?_; rintro e wn ⟨rfl, hbn⟩; rw [HDZ.out]; have X := X.below hbn zl; have hcur := hcur.trans (hbn.mono (Nat.le_of_lt zl)); have zl := Nat.lt_of_lt_of_le zl hbn.size; have Xq := X; obtain ⟨a0, a1, a2, a3, a4, a5, a6, a7⟩ := Xq)
        | (go_at_call 101; with_reducible refine (HNM.out _).mono ?_; rintro e wn ⟨rfl, hbn⟩; rw [HV.out]; have X := X.below hbn zl; have hcur := hcur.trans (hbn.mono (Nat.le_of_lt zl)); have zl := Nat.lt_of_lt_of_le zl hbn.size; have Xq := X; obtain ⟨a0, a1, a2, a3, a4, a5, a6, a7⟩ := Xq)
        | (go_at_call 267; with_reducible refine (specIsD_u d B _ (hd.below (hcur.mono hB)) (Nat.le_trans hB hcur.size) hsz).mono ?_; rintro e wn ⟨rfl, hbn⟩; rw [HDV.out]; have X := X.below hbn zl; have hcur := hcur.trans (hbn.mono (Nat.le_of_lt zl)); have zl := Nat.lt_of_lt_of_le zl hbn.size; have Xq := X; obtain ⟨a0, a1, a2, a3, a4, a5, a6, a7⟩ := Xq)
        | (go_at_call 43; with_reducible refine (l1In_any _ _ _ _).mono ?_; rintro e wn ⟨rfl, hwn⟩; obtain rfl := hwn; rw [HI1.out])
        | (go_at_call 43; with_reducible refine (l1In_any _ _ _ _).mono ?_; rintro e wn ⟨rfl, hwn⟩; obtain rfl := hwn; rw [HI2.out]))
      go_ret
      exact ⟨ret_bool HS.out.symm, hcur⟩
end Go.Proofs.YtpigpncbjckbcaaGreat
namespace Go.Proofs.YtpigpncbjckbcaaGreat
open Go.RowKit
set_option maxRecDepth 100000 in
set_option maxHeartbeats 600000 in
theorem shape3_any (d : Tr Ko) (B : Nat) (w : World) (hin : Ko.E.In w B d) (hB : B ≤ w.heap.size) (hsz : d.a.d.size ≤ 2000000) (hk : d.a.k = 3) : Calls Tryz.prog 237 #[Ko.val d] w fun e w' => e = .returned (.bool (d.a.shape d.l.length)) ∧ Below w.heap.size w w' := by
  have hd := (Ko.E_in hin).1.d
  obtain ⟨W, hW⟩ : ∃ W, W = w.alloc (.cells #[.int .i64 d.a.k, .int .i64 d.a.n, .slice d.a.sA d.a.s.length d.a.sC, .int .i64 d.a.d.k, .int .i64 d.a.d.n, .string d.a.d.t, .slice d.a.d.A d.a.d.l.length d.a.d.c, .slice d.A d.l.length d.c] 35) := ⟨_, rfl⟩
  have zW : W.heap.size = w.heap.size + 1 := by rw [hW]; simp
  have zl : w.heap.size < W.heap.size := by omega
  have hcur : Below w.heap.size w W := by rw [hW]; exact (Below.refl _ _).alloc (Nat.le_refl _) _
  have X : Ko.Box W w.heap.size d := by rw [hW]; exact Ko.Box.new _ _ _
  clear zW
  have HV : Hid (d.a.isVar = false) := by show _ = _; unfold Ko.isVar; rw [hk]; rfl
  have HNM : Hid (∀ w' : World, Calls Tryz.prog 101 #[.agg #[.int .i64 3, .int .i64 d.a.n, .slice d.a.sA d.a.s.length d.a.sC, .int .i64 d.a.d.k, .int .i64 d.a.d.n, .string d.a.d.t, .slice d.a.d.A d.a.d.l.length d.a.d.c, .slice d.A d.l.length d.c]] w' fun e w'' => e = .returned (.bool d.a.isVar) ∧ Below w'.heap.size w' w'') := fun w' => by
    have h := specNames_u d w'
    rwa [hk] at h
  unfold Ko.val
  have Xq := X
  obtain ⟨a0, a1, a2, a3, a4, a5, a6, a7⟩ := Xq
  cases qz : d.a.dz
  · have HDZ : Hid (D.eqB d.a.d zeroD = false) := qz
    have hS : d.a.shape d.l.length = false := by simp [Ko.shape, kKind, Ko.isVar, hk, qz]
    have HS := Lib.hid hS
    clear hS
    have H_hk := Lib.hid hk
    have H_qz := Lib.hid qz
    clear hk qz
    go_enter Tryz.func237, Tryz.ntmps237
    go_upto_region 1 with fail
    rw [← hW]
    clear hW
    have hk := H_hk.out
    have qz := H_qz.out
    go_wp2_with (first
      | (go_at_call 266; with_reducible refine (eqz_any d B _ (hd.below (hcur.mono hB)) (Nat.le_trans hB hcur.size)).mono ?_; rintro e wn ⟨rfl, hbn⟩; rw [HDZ.out]; have X := X.below hbn zl; have hcur := hcur.trans (hbn.mono (Nat.le_of_lt zl)); have zl := Nat.lt_of_lt_of_le zl hbn.size; have Xq := X; obtain ⟨a0, a1, a2, a3, a4, a5, a6, a7⟩ := Xq)
      | (go_at_call 101; with_reducible refine (HNM.out _).mono ?_; rintro e wn ⟨rfl, hbn⟩; rw [HV.out]; have X := X.below hbn zl; have hcur := hcur.trans (hbn.mono (Nat.le_of_lt zl)); have zl := Nat.lt_of_lt_of_le zl hbn.size; have Xq := X; obtain ⟨a0, a1, a2, a3, a4, a5, a6, a7⟩ := Xq)
      | (go_at_call 267; with_reducible refine (specIsD_u d B _ (hd.below (hcur.mono hB)) (Nat.le_trans hB hcur.size) hsz).mono ?_; rintro e wn ⟨rfl, hbn⟩; rw [HDV.out]; have X := X.below hbn zl; have hcur := hcur.trans (hbn.mono (Nat.le_of_lt zl)); have zl := Nat.lt_of_lt_of_le zl hbn.size; have Xq := X; obtain ⟨a0, a1, a2, a3, a4, a5, a6, a7⟩ := Xq)
      | (go_at_call 43; with_reducible refine (l1In_any _ _ _ _).mono ?_; rintro e wn ⟨rfl, hwn⟩; obtain rfl := hwn; rw [HI1.out])
      | (go_at_call 43; with_reducible refine (l1In_any _ _ _ _).mono ?_; rintro e wn ⟨rfl, hwn⟩; obtain rfl := hwn; rw [HI2.out]))
    all_goals go_ret
    all_goals exact ⟨by first | exact ret_bool HS.out.symm | exact ret_bool (by rw [HS.out]; simp; omega), by first | exact hcur | exact hcur.drew⟩
  · have HDZ : Hid (D.eqB d.a.d zeroD = true) := qz
    cases qn : (d.a.n == 0)
    · have qn2 : (d.a.n != 0) = true := by unfold bne; rw [qn]; rfl
      cases q0 : ((d.l.length : Int) == 0)
      · have hS : d.a.shape d.l.length = false := by simp [Ko.shape, kKind, Ko.isVar, hk, qz, qn, q0]
        have HS := Lib.hid hS
        clear hS
        have H_hk := Lib.hid hk
        have H_qz := Lib.hid qz
        have H_qn := Lib.hid qn
        have H_q0 := Lib.hid q0
        have H_qn2 := Lib.hid qn2
        clear hk qz qn q0 qn2
        go_enter Tryz.func237, Tryz.ntmps237
        go_upto_region 1 with fail
        rw [← hW]
        clear hW
        have hk := H_hk.out
        have qz := H_qz.out
        have qn := H_qn.out
        have q0 := H_q0.out
        have qn2 := H_qn2.out
        go_wp2_with (first
          | (go_at_call 266; with_reducible refine (eqz_any d B _ (hd.below (hcur.mono hB)) (Nat.le_trans hB hcur.size)).mono ?_; rintro e wn ⟨rfl, hbn⟩; rw [HDZ.out]; have X := X.below hbn zl; have hcur := hcur.trans (hbn.mono (Nat.le_of_lt zl)); have zl := Nat.lt_of_lt_of_le zl hbn.size; have Xq := X; obtain ⟨a0, a1, a2, a3, a4, a5, a6, a7⟩ := Xq)
          | (go_at_call 101; with_reducible refine (HNM.out _).mono ?_; rintro e wn ⟨rfl, hbn⟩; rw [HV.out]; have X := X.below hbn zl; have hcur := hcur.trans (hbn.mono (Nat.le_of_lt zl)); have zl := Nat.lt_of_lt_of_le zl hbn.size; have Xq := X; obtain ⟨a0, a1, a2, a3, a4, a5, a6, a7⟩ := Xq)
          | (go_at_call 267; with_reducible refine (specIsD_u d B _ (hd.below (hcur.mono hB)) (Nat.le_trans hB hcur.size) hsz).mono ?_; rintro e wn ⟨rfl, hbn⟩; rw [HDV.out]; have X := X.below hbn zl; have hcur := hcur.trans (hbn.mono (Nat.le_of_lt zl)); have zl := Nat.lt_of_lt_of_le zl hbn.size; have Xq := X; obtain ⟨a0, a1, a2, a3, a4, a5, a6, a7⟩ := Xq)
          | (go_at_call 43; with_reducible refine (l1In_any _ _ _ _).mono ?_; rintro e wn ⟨rfl, hwn⟩; obtain rfl := hwn; rw [HI1.out])
          | (go_at_call 43; with_reducible refine (l1In_any _ _ _ _).mono ?_; rintro e wn ⟨rfl, hwn⟩; obtain rfl := hwn; rw [HI2.out]))
        clear qn qn2
        refine wp_region_near (by kernel_rfl) (by kernel_rfl) ?_
        repeat (go_big_quiet_step (fail))
        refine wpQuiet_nil ?_
        intro _ hw1
        obtain ⟨nx, hw2⟩ := hw1
        subst hw2
        have hcur := hcur.trans (nx.below.mono (Nat.le_of_lt zl))
        go_wp2_with fail
        all_goals go_ret
        all_goals exact ⟨by first | exact ret_bool HS.out.symm | exact ret_bool (by rw [HS.out]; simp; omega), by first | exact hcur | exact hcur.drew⟩
      · cases q1 : ((d.a.s.length : Int) == 0)
        · have hS : d.a.shape d.l.length = false := by simp [Ko.shape, kKind, Ko.isVar, hk, qz, qn, q0, q1]
          have HS := Lib.hid hS
          clear hS
          have H_hk := Lib.hid hk
          have H_qz := Lib.hid qz
          have H_qn := Lib.hid qn
          have H_q0 := Lib.hid q0
          have H_q1 := Lib.hid q1
          have H_qn2 := Lib.hid qn2
          clear hk qz qn q0 q1 qn2
          go_enter Tryz.func237, Tryz.ntmps237
          go_upto_region 1 with fail
          rw [← hW]
          clear hW
          have hk := H_hk.out
          have qz := H_qz.out
          have qn := H_qn.out
          have q0 := H_q0.out
          have q1 := H_q1.out
          have qn2 := H_qn2.out
          go_wp2_with (first
            | (go_at_call 266; with_reducible refine (eqz_any d B _ (hd.below (hcur.mono hB)) (Nat.le_trans hB hcur.size)).mono ?_; rintro e wn ⟨rfl, hbn⟩; rw [HDZ.out]; have X := X.below hbn zl; have hcur := hcur.trans (hbn.mono (Nat.le_of_lt zl)); have zl := Nat.lt_of_lt_of_le zl hbn.size; have Xq := X; obtain ⟨a0, a1, a2, a3, a4, a5, a6, a7⟩ := Xq)
            | (go_at_call 101; with_reducible refine (HNM.out _).mono ?_; rintro e wn ⟨rfl, hbn⟩; rw [HV.out]; have X := X.below hbn zl; have hcur := hcur.trans (hbn.mono (Nat.le_of_lt zl)); have zl := Nat.lt_of_lt_of_le zl hbn.size; have Xq := X; obtain ⟨a0, a1, a2, a3, a4, a5, a6, a7⟩ := Xq)
            | (go_at_call 267; with_reducible refine (specIsD_u d B _ (hd.below (hcur.mono hB)) (Nat.le_trans hB hcur.size) hsz).mono ?_; rintro e wn ⟨rfl, hbn⟩; rw [HDV.out]; have X := X.below hbn zl; have hcur := hcur.trans (hbn.mono (Nat.le_of_lt zl)); have zl := Nat.lt_of_lt_of_le zl hbn.size; have Xq := X; obtain ⟨a0, a1, a2, a3, a4, a5, a6, a7⟩ := Xq)
            | (go_at_call 43; with_reducible refine (l1In_any _ _ _ _).mono ?_; rintro e wn ⟨rfl, hwn⟩; obtain rfl := hwn; rw [HI1.out])
            | (go_at_call 43; with_reducible refine (l1In_any _ _ _ _).mono ?_; rintro e wn ⟨rfl, hwn⟩; obtain rfl := hwn; rw [HI2.out]))
          clear qn qn2
          refine wp_region_near (by kernel_rfl) (by kernel_rfl) ?_
          repeat (go_big_quiet_step (fail))
          refine wpQuiet_nil ?_
          intro _ hw1
          obtain ⟨nx, hw2⟩ := hw1
          subst hw2
          have hcur := hcur.trans (nx.below.mono (Nat.le_of_lt zl))
          go_wp2_with fail
          all_goals go_ret
          all_goals exact ⟨by first | exact ret_bool HS.out.symm | exact ret_bool (by rw [HS.out]; simp; omega), by first | exact hcur | exact hcur.drew⟩
        · by_cases q2 : (0 ≤ d.a.n ∧ d.a.n ≤ 13)
          · have HI1 : Hid (decide (0 ≤ d.a.n ∧ d.a.n ≤ 13) = true) := decide_eq_true q2
            have hS : d.a.shape d.l.length = true := by simp [Ko.shape, kKind, Ko.isVar, hk, qz, qn, q0, q1, q2]
            have HS := Lib.hid hS
            clear hS
            have H_hk := Lib.hid hk
            have H_qz := Lib.hid qz
            have H_qn := Lib.hid qn
            have H_q0 := Lib.hid q0
            have H_q1 := Lib.hid q1
            have H_q2 := Lib.hid q2
            have H_qn2 := Lib.hid qn2
            clear hk qz qn q0 q1 q2 qn2
            go_enter Tryz.func237, Tryz.ntmps237
            go_upto_region 1 with fail
            rw [← hW]
            clear hW
            have hk := H_hk.out
            have qz := H_qz.out
            have qn := H_qn.out
            have q0 := H_q0.out
            have q1 := H_q1.out
            have q2 := H_q2.out
            have qn2 := H_qn2.out
            go_wp2_with (first
              | (go_at_call 266; with_reducible refine (eqz_any d B _ (hd.below (hcur.mono hB)) (Nat.le_trans hB hcur.size)).mono ?_; rintro e wn ⟨rfl, hbn⟩; rw [HDZ.out]; have X := X.below hbn zl; have hcur := hcur.trans (hbn.mono (Nat.le_of_lt zl)); have zl := Nat.lt_of_lt_of_le zl hbn.size; have Xq := X; obtain ⟨a0, a1, a2, a3, a4, a5, a6, a7⟩ := Xq)
              | (go_at_call 101; with_reducible refine (HNM.out _).mono ?_; rintro e wn ⟨rfl, hbn⟩; rw [HV.out]; have X := X.below hbn zl; have hcur := hcur.trans (hbn.mono (Nat.le_of_lt zl)); have zl := Nat.lt_of_lt_of_le zl hbn.size; have Xq := X; obtain ⟨a0, a1, a2, a3, a4, a5, a6, a7⟩ := Xq)
              | (go_at_call 267; with_reducible refine (specIsD_u d B _ (hd.below (hcur.mono hB)) (Nat.le_trans hB hcur.size) hsz).mono ?_; rintro e wn ⟨rfl, hbn⟩; rw [HDV.out]; have X := X.below hbn zl; have hcur := hcur.trans (hbn.mono (Nat.le_of_lt zl)); have zl := Nat.lt_of_lt_of_le zl hbn.size; have Xq := X; obtain ⟨a0, a1, a2, a3, a4, a5, a6, a7⟩ := Xq)
              | (go_at_call 43; with_reducible refine (l1In_any _ _ _ _).mono ?_; rintro e wn ⟨rfl, hwn⟩; obtain rfl := hwn; rw [HI1.out])
              | (go_at_call 43; with_reducible refine (l1In_any _ _ _ _).mono ?_; rintro e wn ⟨rfl, hwn⟩; obtain rfl := hwn; rw [HI2.out]))
            clear qn qn2
            have h0 : d.l.length = 0 := by have := eq_of_beq q0; omega
            have h1 : d.a.s.length = 0 := by have := eq_of_beq q1; omega
            clear q0 q1
            rw [h0, h1]
            rw [h0] at a7
            rw [h1] at a2
            clear h0 h1
            go_region_held3 (fun w' => w'.cell? ⟨w.heap.size, 1, none⟩ = some (.int .i64 d.a.n)) (go_keep) (first | (go_at_call 220; with_reducible refine (sprimN_b _).mono ?_; rintro e wn ⟨Ap, cp, rfl, hbn⟩; obtain ⟨hcur, hcell⟩ := drew_cur hcur hbn zl; have p1 := hcell 1 _ a1) | (go_at_call 43; with_reducible refine (l1In_any _ _ _ _).mono ?_; rintro e wn2 ⟨rfl, hwn⟩; obtain rfl := hwn; rw [show IntKind.i64.wrap 13 = 13 from by decide, HI1.out]))
            all_goals go_wp2_with fail
            all_goals go_ret
            all_goals exact ⟨by first | exact ret_bool HS.out.symm | exact ret_bool (by rw [HS.out]; simp; omega), by first | exact hcur | exact hcur.drew⟩
          · have HI1 : Hid (decide (0 ≤ d.a.n ∧ d.a.n ≤ 13) = false) := decide_eq_false q2
            have hS : d.a.shape d.l.length = false := by simp [Ko.shape, kKind, Ko.isVar, hk, qz, qn, q0, q1, q2]
            have HS := Lib.hid hS
            clear hS
            have H_hk := Lib.hid hk
            have H_qz := Lib.hid qz
            have H_qn := Lib.hid qn
            have H_q0 := Lib.hid q0
            have H_q1 := Lib.hid q1
            have H_q2 := Lib.hid q2
            have H_qn2 := Lib.hid qn2
            clear hk qz qn q0 q1 q2 qn2
            go_enter Tryz.func237, Tryz.ntmps237
            go_upto_region 1 with fail
            rw [← hW]
            clear hW
            have hk := H_hk.out
            have qz := H_qz.out
            have qn := H_qn.out
            have q0 := H_q0.out
            have q1 := H_q1.out
            have q2 := H_q2.out
            have qn2 := H_qn2.out
            go_wp2_with (first
              | (go_at_call 266; with_reducible refine (eqz_any d B _ (hd.below (hcur.mono hB)) (Nat.le_trans hB hcur.size)).mono ?_; rintro e wn ⟨rfl, hbn⟩; rw [HDZ.out]; have X := X.below hbn zl; have hcur := hcur.trans (hbn.mono (Nat.le_of_lt zl)); have zl := Nat.lt_of_lt_of_le zl hbn.size; have Xq := X; obtain ⟨a0, a1, a2, a3, a4, a5, a6, a7⟩ := Xq)
              | (go_at_call 101; with_reducible refine (HNM.out _).mono ?_; rintro e wn ⟨rfl, hbn⟩; rw [HV.out]; have X := X.below hbn zl; have hcur := hcur.trans (hbn.mono (Nat.le_of_lt zl)); have zl := Nat.lt_of_lt_of_le zl hbn.size; have Xq := X; obtain ⟨a0, a1, a2, a3, a4, a5, a6, a7⟩ := Xq)
              | (go_at_call 267; with_reducible refine (specIsD_u d B _ (hd.below (hcur.mono hB)) (Nat.le_trans hB hcur.size) hsz).mono ?_; rintro e wn ⟨rfl, hbn⟩; rw [HDV.out]; have X := X.below hbn zl; have hcur := hcur.trans (hbn.mono (Nat.le_of_lt zl)); have zl := Nat.lt_of_lt_of_le zl hbn.size; have Xq := X; obtain ⟨a0, a1, a2, a3, a4, a5, a6, a7⟩ := Xq)
              | (go_at_call 43; with_reducible refine (l1In_any _ _ _ _).mono ?_; rintro e wn ⟨rfl, hwn⟩; obtain rfl := hwn; rw [HI1.out])
              | (go_at_call 43; with_reducible refine (l1In_any _ _ _ _).mono ?_; rintro e wn ⟨rfl, hwn⟩; obtain rfl := hwn; rw [HI2.out]))
            clear qn qn2
            have h0 : d.l.length = 0 := by have := eq_of_beq q0; omega
            have h1 : d.a.s.length = 0 := by have := eq_of_beq q1; omega
            clear q0 q1
            rw [h0, h1]
            rw [h0] at a7
            rw [h1] at a2
            clear h0 h1
            go_region_held3 (fun w' => w'.cell? ⟨w.heap.size, 1, none⟩ = some (.int .i64 d.a.n)) (go_keep) (first | (go_at_call 220; with_reducible refine (sprimN_b _).mono ?_; rintro e wn ⟨Ap, cp, rfl, hbn⟩; obtain ⟨hcur, hcell⟩ := drew_cur hcur hbn zl; have p1 := hcell 1 _ a1) | (go_at_call 43; with_reducible refine (l1In_any _ _ _ _).mono ?_; rintro e wn2 ⟨rfl, hwn⟩; obtain rfl := hwn; rw [show IntKind.i64.wrap 13 = 13 from by decide, HI1.out]))
            all_goals go_wp2_with fail
            all_goals go_ret
            all_goals exact ⟨by first | exact ret_bool HS.out.symm | exact ret_bool (by rw [HS.out]; simp; omega), by first | exact hcur | exact hcur.drew⟩
    · have qn2 : (d.a.n != 0) = false := by unfold bne; rw [qn]; rfl
      cases q0 : ((d.l.length : Int) == 0)
      · have hS : d.a.shape d.l.length = false := by simp [Ko.shape, kKind, Ko.isVar, hk, qz, qn, q0]
        have HS := Lib.hid hS
        clear hS
        have H_hk := Lib.hid hk
        have H_qz := Lib.hid qz
        have H_qn := Lib.hid qn
        have H_q0 := Lib.hid q0
        have H_qn2 := Lib.hid qn2
        clear hk qz qn q0 qn2
        go_enter Tryz.func237, Tryz.ntmps237
        go_upto_region 1 with fail
        rw [← hW]
        clear hW
        have hk := H_hk.out
        have qz := H_qz.out
        have qn := H_qn.out
        have q0 := H_q0.out
        have qn2 := H_qn2.out
        go_wp2_with (first
          | (go_at_call 266; with_reducible refine (eqz_any d B _ (hd.below (hcur.mono hB)) (Nat.le_trans hB hcur.size)).mono ?_; rintro e wn ⟨rfl, hbn⟩; rw [HDZ.out]; have X := X.below hbn zl; have hcur := hcur.trans (hbn.mono (Nat.le_of_lt zl)); have zl := Nat.lt_of_lt_of_le zl hbn.size; have Xq := X; obtain ⟨a0, a1, a2, a3, a4, a5, a6, a7⟩ := Xq)
          | (go_at_call 101; with_reducible refine (HNM.out _).mono ?_; rintro e wn ⟨rfl, hbn⟩; rw [HV.out]; have X := X.below hbn zl; have hcur := hcur.trans (hbn.mono (Nat.le_of_lt zl)); have zl := Nat.lt_of_lt_of_le zl hbn.size; have Xq := X; obtain ⟨a0, a1, a2, a3, a4, a5, a6, a7⟩ := Xq)
          | (go_at_call 267; with_reducible refine (specIsD_u d B _ (hd.below (hcur.mono hB)) (Nat.le_trans hB hcur.size) hsz).mono ?_; rintro e wn ⟨rfl, hbn⟩; rw [HDV.out]; have X := X.below hbn zl; have hcur := hcur.trans (hbn.mono (Nat.le_of_lt zl)); have zl := Nat.lt_of_lt_of_le zl hbn.size; have Xq := X; obtain ⟨a0, a1, a2, a3, a4, a5, a6, a7⟩ := Xq)
          | (go_at_call 43; with_reducible refine (l1In_any _ _ _ _).mono ?_; rintro e wn ⟨rfl, hwn⟩; obtain rfl := hwn; rw [HI1.out])
          | (go_at_call 43; with_reducible refine (l1In_any _ _ _ _).mono ?_; rintro e wn ⟨rfl, hwn⟩; obtain rfl := hwn; rw [HI2.out]))
        clear qn qn2
        refine wp_region_near (by kernel_rfl) (by kernel_rfl) ?_
        repeat (go_big_quiet_step (fail))
        refine wpQuiet_nil ?_
        intro _ hw1
        obtain ⟨nx, hw2⟩ := hw1
        subst hw2
        have hcur := hcur.trans (nx.below.mono (Nat.le_of_lt zl))
        go_wp2_with fail
        all_goals go_ret
        all_goals exact ⟨by first | exact ret_bool HS.out.symm | exact ret_bool (by rw [HS.out]; simp; omega), by first | exact hcur | exact hcur.drew⟩
      · cases q1 : ((d.a.s.length : Int) == 0)
        · have hS : d.a.shape d.l.length = false := by simp [Ko.shape, kKind, Ko.isVar, hk, qz, qn, q0, q1]
          have HS := Lib.hid hS
          clear hS
          have H_hk := Lib.hid hk
          have H_qz := Lib.hid qz
          have H_qn := Lib.hid qn
          have H_q0 := Lib.hid q0
          have H_q1 := Lib.hid q1
          have H_qn2 := Lib.hid qn2
          clear hk qz qn q0 q1 qn2
          go_enter Tryz.func237, Tryz.ntmps237
          go_upto_region 1 with fail
          rw [← hW]
          clear hW
          have hk := H_hk.out
          have qz := H_qz.out
          have qn := H_qn.out
          have q0 := H_q0.out
          have q1 := H_q1.out
          have qn2 := H_qn2.out
          go_wp2_with (first
            | (go_at_call 266; with_reducible refine (eqz_any d B _ (hd.below (hcur.mono hB)) (Nat.le_trans hB hcur.size)).mono ?_; rintro e wn ⟨rfl, hbn⟩; rw [HDZ.out]; have X := X.below hbn zl; have hcur := hcur.trans (hbn.mono (Nat.le_of_lt zl)); have zl := Nat.lt_of_lt_of_le zl hbn.size; have Xq := X; obtain ⟨a0, a1, a2, a3, a4, a5, a6, a7⟩ := Xq)
            | (go_at_call 101; with_reducible refine (HNM.out _).mono ?_; rintro e wn ⟨rfl, hbn⟩; rw [HV.out]; have X := X.below hbn zl; have hcur := hcur.trans (hbn.mono (Nat.le_of_lt zl)); have zl := Nat.lt_of_lt_of_le zl hbn.size; have Xq := X; obtain ⟨a0, a1, a2, a3, a4, a5, a6, a7⟩ := Xq)
            | (go_at_call 267; with_reducible refine (specIsD_u d B _ (hd.below (hcur.mono hB)) (Nat.le_trans hB hcur.size) hsz).mono ?_; rintro e wn ⟨rfl, hbn⟩; rw [HDV.out]; have X := X.below hbn zl; have hcur := hcur.trans (hbn.mono (Nat.le_of_lt zl)); have zl := Nat.lt_of_lt_of_le zl hbn.size; have Xq := X; obtain ⟨a0, a1, a2, a3, a4, a5, a6, a7⟩ := Xq)
            | (go_at_call 43; with_reducible refine (l1In_any _ _ _ _).mono ?_; rintro e wn ⟨rfl, hwn⟩; obtain rfl := hwn; rw [HI1.out])
            | (go_at_call 43; with_reducible refine (l1In_any _ _ _ _).mono ?_; rintro e wn ⟨rfl, hwn⟩; obtain rfl := hwn; rw [HI2.out]))
          clear qn qn2
          refine wp_region_near (by kernel_rfl) (by kernel_rfl) ?_
          repeat (go_big_quiet_step (fail))
          refine wpQuiet_nil ?_
          intro _ hw1
          obtain ⟨nx, hw2⟩ := hw1
          subst hw2
          have hcur := hcur.trans (nx.below.mono (Nat.le_of_lt zl))
          go_wp2_with fail
          all_goals go_ret
          all_goals exact ⟨by first | exact ret_bool HS.out.symm | exact ret_bool (by rw [HS.out]; simp; omega), by first | exact hcur | exact hcur.drew⟩
        · by_cases q2 : (0 ≤ d.a.n ∧ d.a.n ≤ 13)
          · have HI1 : Hid (decide (0 ≤ d.a.n ∧ d.a.n ≤ 13) = true) := decide_eq_true q2
            have hS : d.a.shape d.l.length = true := by simp [Ko.shape, kKind, Ko.isVar, hk, qz, qn, q0, q1, q2]
            have HS := Lib.hid hS
            clear hS
            have H_hk := Lib.hid hk
            have H_qz := Lib.hid qz
            have H_qn := Lib.hid qn
            have H_q0 := Lib.hid q0
            have H_q1 := Lib.hid q1
            have H_q2 := Lib.hid q2
            have H_qn2 := Lib.hid qn2
            clear hk qz qn q0 q1 q2 qn2
            go_enter Tryz.func237, Tryz.ntmps237
            go_upto_region 1 with fail
            rw [← hW]
            clear hW
            have hk := H_hk.out
            have qz := H_qz.out
            have qn := H_qn.out
            have q0 := H_q0.out
            have q1 := H_q1.out
            have q2 := H_q2.out
            have qn2 := H_qn2.out
            go_wp2_with (first
              | (go_at_call 266; with_reducible refine (eqz_any d B _ (hd.below (hcur.mono hB)) (Nat.le_trans hB hcur.size)).mono ?_; rintro e wn ⟨rfl, hbn⟩; rw [HDZ.out]; have X := X.below hbn zl; have hcur := hcur.trans (hbn.mono (Nat.le_of_lt zl)); have zl := Nat.lt_of_lt_of_le zl hbn.size; have Xq := X; obtain ⟨a0, a1, a2, a3, a4, a5, a6, a7⟩ := Xq)
              | (go_at_call 101; with_reducible refine (HNM.out _).mono ?_; rintro e wn ⟨rfl, hbn⟩; rw [HV.out]; have X := X.below hbn zl; have hcur := hcur.trans (hbn.mono (Nat.le_of_lt zl)); have zl := Nat.lt_of_lt_of_le zl hbn.size; have Xq := X; obtain ⟨a0, a1, a2, a3, a4, a5, a6, a7⟩ := Xq)
              | (go_at_call 267; with_reducible refine (specIsD_u d B _ (hd.below (hcur.mono hB)) (Nat.le_trans hB hcur.size) hsz).mono ?_; rintro e wn ⟨rfl, hbn⟩; rw [HDV.out]; have X := X.below hbn zl; have hcur := hcur.trans (hbn.mono (Nat.le_of_lt zl)); have zl := Nat.lt_of_lt_of_le zl hbn.size; have Xq := X; obtain ⟨a0, a1, a2, a3, a4, a5, a6, a7⟩ := Xq)
              | (go_at_call 43; with_reducible refine (l1In_any _ _ _ _).mono ?_; rintro e wn ⟨rfl, hwn⟩; obtain rfl := hwn; rw [HI1.out])
              | (go_at_call 43; with_reducible refine (l1In_any _ _ _ _).mono ?_; rintro e wn ⟨rfl, hwn⟩; obtain rfl := hwn; rw [HI2.out]))
            clear qn qn2
            have h0 : d.l.length = 0 := by have := eq_of_beq q0; omega
            have h1 : d.a.s.length = 0 := by have := eq_of_beq q1; omega
            clear q0 q1
            rw [h0, h1]
            rw [h0] at a7
            rw [h1] at a2
            clear h0 h1
            go_region_held3 (fun w' => w'.cell? ⟨w.heap.size, 1, none⟩ = some (.int .i64 d.a.n)) (go_keep) (first | (go_at_call 220; with_reducible refine (sprimN_b _).mono ?_; rintro e wn ⟨Ap, cp, rfl, hbn⟩; obtain ⟨hcur, hcell⟩ := drew_cur hcur hbn zl; have p1 := hcell 1 _ a1) | (go_at_call 43; with_reducible refine (l1In_any _ _ _ _).mono ?_; rintro e wn2 ⟨rfl, hwn⟩; obtain rfl := hwn; rw [show IntKind.i64.wrap 13 = 13 from by decide, HI1.out]))
            all_goals go_wp2_with fail
            all_goals go_ret
            all_goals exact ⟨by first | exact ret_bool HS.out.symm | exact ret_bool (by rw [HS.out]; simp; omega), by first | exact hcur | exact hcur.drew⟩
          · have HI1 : Hid (decide (0 ≤ d.a.n ∧ d.a.n ≤ 13) = false) := decide_eq_false q2
            have hS : d.a.shape d.l.length = false := by simp [Ko.shape, kKind, Ko.isVar, hk, qz, qn, q0, q1, q2]
            have HS := Lib.hid hS
            clear hS
            have H_hk := Lib.hid hk
            have H_qz := Lib.hid qz
            have H_qn := Lib.hid qn
            have H_q0 := Lib.hid q0
            have H_q1 := Lib.hid q1
            have H_q2 := Lib.hid q2
            have H_qn2 := Lib.hid qn2
            clear hk qz qn q0 q1 q2 qn2
            go_enter Tryz.func237, Tryz.ntmps237
            go_upto_region 1 with fail
            rw [← hW]
            clear hW
            have hk := H_hk.out
            have qz := H_qz.out
            have qn := H_qn.out
            have q0 := H_q0.out
            have q1 := H_q1.out
            have q2 := H_q2.out
            have qn2 := H_qn2.out
            go_wp2_with (first
              | (go_at_call 266; with_reducible refine (eqz_any d B _ (hd.below (hcur.mono hB)) (Nat.le_trans hB hcur.size)).mono ?_; rintro e wn ⟨rfl, hbn⟩; rw [HDZ.out]; have X := X.below hbn zl; have hcur := hcur.trans (hbn.mono (Nat.le_of_lt zl)); have zl := Nat.lt_of_lt_of_le zl hbn.size; have Xq := X; obtain ⟨a0, a1, a2, a3, a4, a5, a6, a7⟩ := Xq)
              | (go_at_call 101; with_reducible refine (HNM.out _).mono ?_; rintro e wn ⟨rfl, hbn⟩; rw [HV.out]; have X := X.below hbn zl; have hcur := hcur.trans (hbn.mono (Nat.le_of_lt zl)); have zl := Nat.lt_of_lt_of_le zl hbn.size; have Xq := X; obtain ⟨a0, a1, a2, a3, a4, a5, a6, a7⟩ := Xq)
              | (go_at_call 267; with_reducible refine (specIsD_u d B _ (hd.below (hcur.mono hB)) (Nat.le_trans hB hcur.size) hsz).mono ?_; rintro e wn ⟨rfl, hbn⟩; rw [HDV.out]; have X := X.below hbn zl; have hcur := hcur.trans (hbn.mono (Nat.le_of_lt zl)); have zl := Nat.lt_of_lt_of_le zl hbn.size; have Xq := X; obtain ⟨a0, a1, a2, a3, a4, a5, a6, a7⟩ := Xq)
              | (go_at_call 43; with_reducible refine (l1In_any _ _ _ _).mono ?_; rintro e wn ⟨rfl, hwn⟩; obtain rfl := hwn; rw [HI1.out])
              | (go_at_call 43; with_reducible refine (l1In_any _ _ _ _).mono ?_; rintro e wn ⟨rfl, hwn⟩; obtain rfl := hwn; rw [HI2.out]))
            clear qn qn2
            have h0 : d.l.length = 0 := by have := eq_of_beq q0; omega
            have h1 : d.a.s.length = 0 := by have := eq_of_beq q1; omega
            clear q0 q1
            rw [h0, h1]
            rw [h0] at a7
            rw [h1] at a2
            clear h0 h1
            go_region_held3 (fun w' => w'.cell? ⟨w.heap.size, 1, none⟩ = some (.int .i64 d.a.n)) (go_keep) (first | (go_at_call 220; with_reducible refine (sprimN_b _).mono ?_; rintro e wn ⟨Ap, cp, rfl, hbn⟩; obtain ⟨hcur, hcell⟩ := drew_cur hcur hbn zl; have p1 := hcell 1 _ a1) | (go_at_call 43; with_reducible refine (l1In_any _ _ _ _).mono ?_; rintro e wn2 ⟨rfl, hwn⟩; obtain rfl := hwn; rw [show IntKind.i64.wrap 13 = 13 from by decide, HI1.out]))
            all_goals go_wp2_with fail
            all_goals go_ret
            all_goals exact ⟨by first | exact ret_bool HS.out.symm | exact ret_bool (by rw [HS.out]; simp; omega), by first | exact hcur | exact hcur.drew⟩
end Go.Proofs.YtpigpncbjckbcaaGreat
namespace Go.Proofs.YtpigpncbjckbcaaGreat
open Go.RowKit
theorem shape_any (d : Tr Ko) (B : Nat) (w : World) (hin : Ko.E.In w B d) (hB : B ≤ w.heap.size) (hsz : d.a.d.size ≤ 2000000) : Calls Tryz.prog 237 #[Ko.val d] w fun e w' => e = .returned (.bool (d.a.shape d.l.length)) ∧ Below w.heap.size w w' := by
  by_cases h1 : d.a.k = 1
  · exact shape1_any d B w hin hB hsz h1
  by_cases h2 : d.a.k = 2
  · exact shape2_any d B w hin hB hsz h2
  by_cases h3 : d.a.k = 3
  · exact shape3_any d B w hin hB hsz h3
  by_cases h4 : d.a.k = 4
  · exact shape4_any d B w hin hB hsz h4
  by_cases h5 : d.a.k = 5
  · exact shape5_any d B w hin hB hsz h5
  by_cases h6 : d.a.k = 6
  · exact shape6_any d B w hin hB hsz h6
  by_cases h7 : d.a.k = 7
  · exact shape7_any d B w hin hB hsz h7
  by_cases h8 : d.a.k = 8
  · exact shape8_any d B w hin hB hsz h8
  by_cases h9 : d.a.k = 9
  · exact shape9_any d B w hin hB hsz h9
  by_cases h10 : d.a.k = 10
  · exact shape10_any d B w hin hB hsz h10
  by_cases h11 : d.a.k = 11
  · exact shape11_any d B w hin hB hsz h11
  exact shapeX_any d B w hin hB ⟨h1, h2, h3, h4, h5, h6, h7, h8, h9, h10, h11⟩
mutual
def Tr.nodes : Tr Ko → Bool | .mk a _ _ l => Tr.nodesL a.k l && a.shape l.length
def Tr.nodesL : Int → List (Tr Ko) → Bool | _, [] => true | k, d :: r => (Tr.nodes d && !(k == 8 && d.a.k == 8)) && Tr.nodesL k r
end
theorem Tr.nodes_eq (d : Tr Ko) : d.nodes = (Tr.nodesL d.a.k d.l && d.a.shape d.l.length) := by cases d; rfl
theorem Tr.nodesL_append (k : Int) (a b : List (Tr Ko)) : Tr.nodesL k (a ++ b) = (Tr.nodesL k a && Tr.nodesL k b) := by
  induction a with
  | nil => simp [Tr.nodesL]
  | cons d r ih => simp only [List.cons_append, Tr.nodesL, ih, Bool.and_assoc]
theorem Tr.nodesL_take_succ (k : Int) (l : List (Tr Ko)) (j : Nat) (h : j < l.length) : Tr.nodesL k (l.take (j + 1)) = (Tr.nodesL k (l.take j) && ((l[j]).nodes && !(k == 8 && (l[j]).a.k == 8))) := by
  rw [List.take_succ_eq_append_getElem h, Tr.nodesL_append]; simp [Tr.nodesL]
theorem Tr.nodesL_no (k : Int) (l : List (Tr Ko)) (j : Nat) (h : j < l.length) (hq : ((l[j]).nodes && !(k == 8 && (l[j]).a.k == 8)) = false) : Tr.nodesL k l = false := by
  have h1 := Tr.nodesL_append k (l.take (j + 1)) (l.drop (j + 1))
  rw [List.take_append_drop, Tr.nodesL_take_succ k l j h, hq] at h1
  simpa using h1
theorem Ko.shape_er {a b : Ko} (h : Ko.er a = Ko.er b) (n : Nat) : a.shape n = b.shape n := by
  simp only [Ko.er, Ko.mk.injEq] at h
  obtain ⟨h1, h2, _, _, h3, h4⟩ := h
  have e1 : a.dz = b.dz := by unfold Ko.dz; rw [D.eqB_er, h4, ← D.eqB_er]
  have e2 : a.dv = b.dv := by unfold Ko.dv; exact D.isD_of_er h4
  unfold Ko.shape Ko.isVar
  rw [h1, h2, h3, e1, e2]
mutual
theorem Tr.nodes_of_er : ∀ d e : Tr Ko, Tr.er Ko.er d = Tr.er Ko.er e → d.nodes = e.nodes
  | .mk a _ _ l, .mk b _ _ m => fun h => by
    simp only [Tr.er, Tr.mk.injEq] at h
    have hk : a.k = b.k := by have := h.1; simp only [Ko.er, Ko.mk.injEq] at this; exact this.1
    have hl : l.length = m.length := by rw [← Tr.erL_length Ko.er l, h.2.2.2, Tr.erL_length]
    simp only [Tr.nodes, hk, hl, Ko.shape_er h.1, Tr.nodesL_of_er b.k l m h.2.2.2]
theorem Tr.nodesL_of_er : ∀ (k : Int) (l m : List (Tr Ko)), Tr.erL Ko.er l = Tr.erL Ko.er m → Tr.nodesL k l = Tr.nodesL k m
  | _, [], [] => fun _ => rfl
  | _, [], _ :: _ => fun h => by simp [Tr.erL] at h
  | _, _ :: _, [] => fun h => by simp [Tr.erL] at h
  | k, d :: r, e :: t => fun h => by
    simp only [Tr.erL, List.cons.injEq] at h
    have hk : d.a.k = e.a.k := by
      have h0 := h.1
      cases d; cases e
      simp only [Tr.er, Tr.mk.injEq, Ko.er, Ko.mk.injEq] at h0
      exact h0.1.1
    simp only [Tr.nodesL, Tr.nodes_of_er d e h.1, hk, Tr.nodesL_of_er k r t h.2]
end
def KoNodOk (m : Nat) : Prop := ∀ (d : Tr Ko) (B : Nat) (w : World), d.size ≤ m → Ko.E.In w B d → B ≤ w.heap.size → d.bulk Ko.bulk ≤ 1500000 →
    Calls Tryz.prog 168 #[Ko.val d] w fun e w' => e = .returned (.bool d.nodes) ∧ Below w.heap.size w w'
set_option maxRecDepth 100000 in
set_option maxHeartbeats 2000000 in
theorem specNod_step (m : Nat) (ih : KoNodOk m) : KoNodOk (m + 1) := by
  intro d B w hm hin hB hbulk
  have hcap := (Ko.E_in hin).2.cap
  have hsq := Tr.size_eq d
  have hbq := Tr.bulk_eq Ko.bulk d
  have hkb : Ko.bulk d.a = d.a.s.length + d.a.d.bulk := rfl
  have hdb := D.bulk_size d.a.d
  have hds : d.a.d.size ≤ 2000000 := by omega
  by_cases hk : d.a.k = 8
  ·
    have hk8 : (d.a.k == 8) = true := by simp [hk]
    have HK8 := Lib.hid hk8
    obtain ⟨W, hW⟩ : ∃ W, W = w.alloc (.cells #[.int .i64 8, .int .i64 d.a.n, .slice d.a.sA d.a.s.length d.a.sC, .int .i64 d.a.d.k, .int .i64 d.a.d.n, .string d.a.d.t, .slice d.a.d.A d.a.d.l.length d.a.d.c, .slice d.A d.l.length d.c] 35) := ⟨_, rfl⟩
    have zW : W.heap.size = w.heap.size + 1 := by rw [hW]; simp
    have hW0 : W = w.alloc (.cells #[.int .i64 d.a.k, .int .i64 d.a.n, .slice d.a.sA d.a.s.length d.a.sC, .int .i64 d.a.d.k, .int .i64 d.a.d.n, .string d.a.d.t, .slice d.a.d.A d.a.d.l.length d.a.d.c, .slice d.A d.l.length d.c] 35) := by rw [hW]; rw [hk]
    have b1 : Below w.heap.size w W := by rw [hW]; exact (Below.refl _ _).alloc (Nat.le_refl _) _
    have X0 : Ko.Box W w.heap.size d := by rw [hW0]; exact Ko.Box.new _ _ _
    have HX := Lib.hid X0
    have HS := Lib.hid (shape_any d B)
    unfold Ko.val at HS
    unfold Ko.val
    obtain ⟨a0, a1, a2, a3, a4, a5, a6, a7⟩ := X0
    clear hW0
    rw [hk] at a0 HS
    rw [hk]
    clear hk hk8
    go_enter Tryz.func168, Tryz.ntmps168
    go_wp2_with fail
    rw [← hW]
    clear hW
    go_loopw [8] (fun i wr => ∃ j : Nat, j ≤ d.l.length ∧ i = .int .i64 j ∧ Hid (Tr.nodesL d.a.k (d.l.take j) = true) ∧ Below W.heap.size W wr) (fun i _ => d.l.length - (intOf i).toNat)
    case atStart => exact ⟨0, Nat.zero_le _, rfl, rfl, Below.refl _ _⟩
    case round =>
      obtain ⟨j, hj, rfl, HN, hb⟩ := hrel
      have hs2 := hb.size
      have X1 := HX.out.below hb (by omega)
      clear a0 a1 a2 a3 a4 a5 a6 a7
      obtain ⟨a0, a1, a2, a3, a4, a5, a6, a7⟩ := X1
      rw [eq_of_beq HK8.out] at a0
      by_cases hlt : j < d.l.length
      · obtain ⟨b, o, hA, hblk, c0, c1, c2, c3, c4, c5, c6, c7, hix⟩ := Ko.at_ ((Ko.E_in hin).2.below ((b1.trans (hb.mono (by omega))).mono hB)) (i := j) (x := d.l[j]) (List.getElem?_eq_getElem hlt)
        have hsz := Tr.sizeL_mem (l := d.l) (List.getElem_mem hlt)
        have hbk := Tr.bulkL_mem (f := Ko.bulk) (l := d.l) (List.getElem_mem hlt)
        obtain ⟨W3, hW3⟩ : ∃ W3, W3 = wr.alloc (.cells #[.int .i64 d.l[j].a.k, .int .i64 d.l[j].a.n, .slice d.l[j].a.sA d.l[j].a.s.length d.l[j].a.sC, .int .i64 d.l[j].a.d.k, .int .i64 d.l[j].a.d.n, .string d.l[j].a.d.t, .slice d.l[j].a.d.A d.l[j].a.d.l.length d.l[j].a.d.c, .slice d.l[j].A d.l[j].l.length d.l[j].c] 35) := ⟨_, rfl⟩
        have z3 : W3.heap.size = wr.heap.size + 1 := by rw [hW3]; simp
        have bA : Below wr.heap.size wr W3 := by rw [hW3]; exact (Below.refl _ _).alloc (Nat.le_refl _) _
        have Y0 : Ko.Box W3 wr.heap.size d.l[j] := by rw [hW3]; exact Ko.Box.new _ _ _
        have X3 := HX.out.below (hb.trans (bA.mono (by omega))) (by omega)
        have hi3 := Elem.In.below hix (bA.mono (by omega))
        rw [hA] at a7
        rw [hA]
        clear hA
        go_upto_region 4 with fail
        rw [← hW3]
        clear hW3
        have Y0q := Y0
        obtain ⟨e0, e1, e2, e3, e4, e5, e6, e7⟩ := Y0q
        clear a0 a1 a2 a3 a4 a5 a6 a7
        obtain ⟨a0, a1, a2, a3, a4, a5, a6, a7⟩ := X3
        rw [eq_of_beq HK8.out] at a0
        go_wp2_with fail
        refine (ih d.l[j] B W3 (by omega) hi3 (by omega) (by omega)).mono ?_
        rintro e w1 ⟨rfl, hb1⟩
        have z1 := hb1.size
        have Y1 := Y0.below hb1 (by omega)
        obtain ⟨f0, _, _, _, _, _, _, _⟩ := Y1
        have g0 := (hb1.cell (p := ⟨w.heap.size, 0, none⟩) (show w.heap.size < _ by omega)).trans a0
        have HB1 := Lib.hid (hb.trans ((bA.mono hs2).trans (hb1.mono (by omega))))
        clear hb1 Y0 e0 e1 e2 e3 e4 e5 e6 e7 a0 a1 a2 a3 a4 a5 a6 a7 bA hi3
        cases hq : (d.l[j]).nodes
        · have HQ := Lib.hid (Tr.nodesL_no d.a.k d.l j hlt (by rw [hq]; rfl))
          clear hq
          go_wp2_with fail
          go_ret
          exact ⟨ret_bool (by rw [Tr.nodes_eq, HQ.out]; rfl), b1.trans (HB1.out.mono (by omega))⟩
        · have HQ := Lib.hid hq
          clear hq
          cases h8 : ((d.l[j]).a.k == 8)
          · have H8 := Lib.hid h8
            go_wp2_with fail
            go_roundw
            case rel => exact ⟨j + 1, by omega, by go_num, by (show _ = _); rw [Tr.nodesL_take_succ d.a.k d.l j hlt, HN.out, HQ.out, H8.out]; simp, HB1.out⟩
            case measure => simp [intOf]; omega
          · have H8 := Lib.hid h8
            have HF := Lib.hid (Tr.nodesL_no d.a.k d.l j hlt (by rw [HQ.out, HK8.out, h8]; rfl))
            go_wp2_with fail
            go_ret
            exact ⟨ret_bool (by rw [Tr.nodes_eq, HF.out]; rfl), b1.trans (HB1.out.mono (by omega))⟩
      · have hj' : j = d.l.length := by omega
        subst hj'
        have HN2 : Hid (Tr.nodesL d.a.k d.l = true) := by have := HN.out; rwa [List.take_length] at this
        go_wp2_with fail
        refine (HS.out wr (Elem.In.below hin ((b1.trans (hb.mono (by omega))).mono hB)) (by omega) hds).mono ?_
        rintro e w1 ⟨rfl, hb1⟩
        have HB1 := Lib.hid ((b1.trans (hb.mono (by omega))).trans (hb1.mono (by omega)))
        clear hb1
        go_wp2_with fail
        go_ret
        exact ⟨ret_bool (by rw [Tr.nodes_eq, HN2.out]; rfl), HB1.out⟩
  ·
    have hk8 : (d.a.k == 8) = false := by simp [hk]
    have HK8 := Lib.hid hk8
    obtain ⟨W, hW⟩ : ∃ W, W = w.alloc (.cells #[.int .i64 d.a.k, .int .i64 d.a.n, .slice d.a.sA d.a.s.length d.a.sC, .int .i64 d.a.d.k, .int .i64 d.a.d.n, .string d.a.d.t, .slice d.a.d.A d.a.d.l.length d.a.d.c, .slice d.A d.l.length d.c] 35) := ⟨_, rfl⟩
    have zW : W.heap.size = w.heap.size + 1 := by rw [hW]; simp
    have hW0 : W = w.alloc (.cells #[.int .i64 d.a.k, .int .i64 d.a.n, .slice d.a.sA d.a.s.length d.a.sC, .int .i64 d.a.d.k, .int .i64 d.a.d.n, .string d.a.d.t, .slice d.a.d.A d.a.d.l.length d.a.d.c, .slice d.A d.l.length d.c] 35) := by rw [hW]
    have b1 : Below w.heap.size w W := by rw [hW]; exact (Below.refl _ _).alloc (Nat.le_refl _) _
    have X0 : Ko.Box W w.heap.size d := by rw [hW0]; exact Ko.Box.new _ _ _
    have HX := Lib.hid X0
    have HS := Lib.hid (shape_any d B)
    unfold Ko.val at HS
    unfold Ko.val
    obtain ⟨a0, a1, a2, a3, a4, a5, a6, a7⟩ := X0
    clear hW0
    have j8 := hk8
    clear hk hk8
    go_enter Tryz.func168, Tryz.ntmps168
    go_wp2_with fail
    rw [← hW]
    clear hW
    go_loopw [8] (fun i wr => ∃ j : Nat, j ≤ d.l.length ∧ i = .int .i64 j ∧ Hid (Tr.nodesL d.a.k (d.l.take j) = true) ∧ Below W.heap.size W wr) (fun i _ => d.l.length - (intOf i).toNat)
    case atStart => exact ⟨0, Nat.zero_le _, rfl, rfl, Below.refl _ _⟩
    case round =>
      obtain ⟨j, hj, rfl, HN, hb⟩ := hrel
      have hs2 := hb.size
      have X1 := HX.out.below hb (by omega)
      clear a0 a1 a2 a3 a4 a5 a6 a7
      obtain ⟨a0, a1, a2, a3, a4, a5, a6, a7⟩ := X1
      by_cases hlt : j < d.l.length
      · obtain ⟨b, o, hA, hblk, c0, c1, c2, c3, c4, c5, c6, c7, hix⟩ := Ko.at_ ((Ko.E_in hin).2.below ((b1.trans (hb.mono (by omega))).mono hB)) (i := j) (x := d.l[j]) (List.getElem?_eq_getElem hlt)
        have hsz := Tr.sizeL_mem (l := d.l) (List.getElem_mem hlt)
        have hbk := Tr.bulkL_mem (f := Ko.bulk) (l := d.l) (List.getElem_mem hlt)
        obtain ⟨W3, hW3⟩ : ∃ W3, W3 = wr.alloc (.cells #[.int .i64 d.l[j].a.k, .int .i64 d.l[j].a.n, .slice d.l[j].a.sA d.l[j].a.s.length d.l[j].a.sC, .int .i64 d.l[j].a.d.k, .int .i64 d.l[j].a.d.n, .string d.l[j].a.d.t, .slice d.l[j].a.d.A d.l[j].a.d.l.length d.l[j].a.d.c, .slice d.l[j].A d.l[j].l.length d.l[j].c] 35) := ⟨_, rfl⟩
        have z3 : W3.heap.size = wr.heap.size + 1 := by rw [hW3]; simp
        have bA : Below wr.heap.size wr W3 := by rw [hW3]; exact (Below.refl _ _).alloc (Nat.le_refl _) _
        have Y0 : Ko.Box W3 wr.heap.size d.l[j] := by rw [hW3]; exact Ko.Box.new _ _ _
        have X3 := HX.out.below (hb.trans (bA.mono (by omega))) (by omega)
        have hi3 := Elem.In.below hix (bA.mono (by omega))
        rw [hA] at a7
        rw [hA]
        clear hA
        go_upto_region 4 with fail
        rw [← hW3]
        clear hW3
        have Y0q := Y0
        obtain ⟨e0, e1, e2, e3, e4, e5, e6, e7⟩ := Y0q
        clear a0 a1 a2 a3 a4 a5 a6 a7
        obtain ⟨a0, a1, a2, a3, a4, a5, a6, a7⟩ := X3
        go_wp2_with fail
        refine (ih d.l[j] B W3 (by omega) hi3 (by omega) (by omega)).mono ?_
        rintro e w1 ⟨rfl, hb1⟩
        have z1 := hb1.size
        have Y1 := Y0.below hb1 (by omega)
        obtain ⟨f0, _, _, _, _, _, _, _⟩ := Y1
        have g0 := (hb1.cell (p := ⟨w.heap.size, 0, none⟩) (show w.heap.size < _ by omega)).trans a0
        have HB1 := Lib.hid (hb.trans ((bA.mono hs2).trans (hb1.mono (by omega))))
        clear hb1 Y0 e0 e1 e2 e3 e4 e5 e6 e7 a0 a1 a2 a3 a4 a5 a6 a7 bA hi3
        cases hq : (d.l[j]).nodes
        · have HQ := Lib.hid (Tr.nodesL_no d.a.k d.l j hlt (by rw [hq]; rfl))
          clear hq
          go_wp2_with fail
          go_ret
          exact ⟨ret_bool (by rw [Tr.nodes_eq, HQ.out]; rfl), b1.trans (HB1.out.mono (by omega))⟩
        · have HQ := Lib.hid hq
          clear hq
          go_wp2_with fail
          go_roundw
          case rel => exact ⟨j + 1, by omega, by go_num, by (show _ = _); rw [Tr.nodesL_take_succ d.a.k d.l j hlt, HN.out, HQ.out, HK8.out]; rfl, HB1.out⟩
          case measure => simp [intOf]; omega
      · have hj' : j = d.l.length := by omega
        subst hj'
        have HN2 : Hid (Tr.nodesL d.a.k d.l = true) := by have := HN.out; rwa [List.take_length] at this
        go_wp2_with fail
        refine (HS.out wr (Elem.In.below hin ((b1.trans (hb.mono (by omega))).mono hB)) (by omega) hds).mono ?_
        rintro e w1 ⟨rfl, hb1⟩
        have HB1 := Lib.hid ((b1.trans (hb.mono (by omega))).trans (hb1.mono (by omega)))
        clear hb1
        go_wp2_with fail
        go_ret
        exact ⟨ret_bool (by rw [Tr.nodes_eq, HN2.out]; rfl), HB1.out⟩
theorem specNod_any : ∀ m, KoNodOk m := by
  intro m
  induction m with
  | zero => intro d B w h; have := d.size_pos; omega
  | succ m ih => exact specNod_step m ih
end Go.Proofs.YtpigpncbjckbcaaGreat
