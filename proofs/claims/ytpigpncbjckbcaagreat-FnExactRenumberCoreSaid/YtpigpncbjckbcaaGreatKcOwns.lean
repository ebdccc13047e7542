/-
  A node of a term: the program's test of its fields, kind by kind (written by gen/konode.py).
-/
import Derived.Test.YtpigpncbjckbcaaGreatKcB
import Derived.Test.YtpigpncbjckbcaaGreatKoFree
import Derived.Test.YtpigpncbjckbcaaGreatNear
import Derived.Test.YtpigpncbjckbcaaGreatKoBase
namespace Go.Proofs.YtpigpncbjckbcaaGreat
open Go.RowKit
def Ko.own (a : Ko) : Bool := (a.n == 0 || (a.isVar || a.k == 3)) && (((a.s.length : Int) == 0 || (a.k == 5 || (a.k == 9 || a.k == 11))) && (a.k == 1 || a.dz))
theorem len_pos_beq {n : Nat} (h : (0 : Int) < (n : Int)) : ((n : Int) == 0) = false := by
  rw [beq_eq_false_iff_ne]; omega
theorem len_zero_beq {n : Nat} (h : ¬ (0 : Int) < (n : Int)) : ((n : Int) == 0) = true := by
  rw [beq_iff_eq]; omega
theorem ieqz_any (d : Tr Ko) (B : Nat) (w : World) (hd : d.a.d.In w B) (hB : B ≤ w.heap.size) : Calls Tryz.prog 280 #[.agg #[.int .i64 d.a.d.k, .int .i64 d.a.d.n, .string d.a.d.t, .slice d.a.d.A d.a.d.l.length d.a.d.c], .agg #[.int .i64 0, .int .i64 0, .string ⟨#[]⟩, .slice none 0 0]] w fun e w' => e = .returned (.bool (D.eqB d.a.d zeroD)) ∧ Below w.heap.size w w' :=
  implEqual_any d.a.d.size d.a.d zeroD B w (Nat.le_refl _) hd (zeroD_in _ _) hB
theorem implVar_u (d : Tr Ko) (w : World) : Calls Tryz.prog 174 #[.agg #[.int .i64 d.a.k, .int .i64 d.a.n, .slice d.a.sA d.a.s.length d.a.sC, .int .i64 d.a.d.k, .int .i64 d.a.d.n, .string d.a.d.t, .slice d.a.d.A d.a.d.l.length d.a.d.c, .slice d.A d.l.length d.c]] w fun e w' => e = .returned (.bool d.a.isVar) ∧ Below w.heap.size w w' := implVar_any d w
set_option maxRecDepth 100000 in
set_option maxHeartbeats 800000 in
theorem own1_any (d : Tr Ko) (B : Nat) (w : World) (hin : Ko.E.In w B d) (hB : B ≤ w.heap.size) (hsz : d.a.d.size ≤ 2000000) (hk : d.a.k = 1) : Calls Tryz.prog 257 #[Ko.val d] w fun e w' => e = .returned (.bool d.a.own) ∧ Below w.heap.size w w' := by
  have hd := (Ko.E_in hin).1.d
  obtain ⟨W, hW⟩ : ∃ W, W = w.alloc (.cells #[.int .i64 d.a.k, .int .i64 d.a.n, .slice d.a.sA d.a.s.length d.a.sC, .int .i64 d.a.d.k, .int .i64 d.a.d.n, .string d.a.d.t, .slice d.a.d.A d.a.d.l.length d.a.d.c, .slice d.A d.l.length d.c] 35) := ⟨_, rfl⟩
  have zW : W.heap.size = w.heap.size + 1 := by rw [hW]; simp
  have zl : w.heap.size < W.heap.size := by omega
  have hcur : Below w.heap.size w W := by rw [hW]; exact (Below.refl _ _).alloc (Nat.le_refl _) _
  have X : Ko.Box W w.heap.size d := by rw [hW]; exact Ko.Box.new _ _ _
  clear zW
  have HV : Hid (d.a.isVar = false) := by show _ = _; unfold Ko.isVar; rw [hk]; rfl
  have HNM : Hid (∀ w' : World, Calls Tryz.prog 174 #[.agg #[.int .i64 1, .int .i64 d.a.n, .slice d.a.sA d.a.s.length d.a.sC, .int .i64 d.a.d.k, .int .i64 d.a.d.n, .string d.a.d.t, .slice d.a.d.A d.a.d.l.length d.a.d.c, .slice d.A d.l.length d.c]] w' fun e w'' => e = .returned (.bool d.a.isVar) ∧ Below w'.heap.size w' w'') := fun w' => by
    have h := implVar_u d w'
    rwa [hk] at h
  unfold Ko.val
  have Xq := X
  obtain ⟨a0, a1, a2, a3, a4, a5, a6, a7⟩ := Xq
  cases qn : (d.a.n == 0)
  · have qn2 : (d.a.n != 0) = true := by unfold bne; rw [qn]; rfl
    have hS : d.a.own = false := by simp [Ko.own, Ko.isVar, hk, qn]
    have HS := Lib.hid hS
    clear hS
    have H_hk := Lib.hid hk
    have H_qn := Lib.hid qn
    have H_qn2 := Lib.hid qn2
    clear hk qn qn2
    go_enter Tryz.func257, Tryz.ntmps257
    go_upto_region 1 with fail
    rw [← hW]
    clear hW
    have hk := H_hk.out
    have qn := H_qn.out
    have qn2 := H_qn2.out
    go_wp2_with (first
      | (go_at_call 174; with_reducible refine (HNM.out _).mono ?_; rintro e wn ⟨rfl, hbn⟩; rw [HV.out]; have X := X.below hbn zl; have hcur := hcur.trans (hbn.mono (Nat.le_of_lt zl)); have zl := Nat.lt_of_lt_of_le zl hbn.size; have Xq := X; obtain ⟨a0, a1, a2, a3, a4, a5, a6, a7⟩ := Xq)
      | (go_at_call 280; with_reducible refine (ieqz_any d B _ (hd.below (hcur.mono hB)) (Nat.le_trans hB hcur.size)).mono ?_; rintro e wn ⟨rfl, hbn⟩; rw [HDZ.out]; have X := X.below hbn zl; have hcur := hcur.trans (hbn.mono (Nat.le_of_lt zl)); have zl := Nat.lt_of_lt_of_le zl hbn.size; have Xq := X; obtain ⟨a0, a1, a2, a3, a4, a5, a6, a7⟩ := Xq))
    go_ret
    exact ⟨by first | exact ret_bool HS.out.symm | exact ret_bool (by rw [HS.out]; simp), hcur⟩
  · have qn2 : (d.a.n != 0) = false := by unfold bne; rw [qn]; rfl
    by_cases qp : (0 : Int) < (d.a.s.length : Int)
    · have qp0 : ((d.a.s.length : Int) == 0) = false := len_pos_beq qp
      have hS : d.a.own = false := by simp [Ko.own, Ko.isVar, hk, qn, qp, qp0]
      have HS := Lib.hid hS
      clear hS
      have H_hk := Lib.hid hk
      have H_qn := Lib.hid qn
      have H_qp := Lib.hid qp
      have H_qp0 := Lib.hid qp0
      have H_qn2 := Lib.hid qn2
      clear hk qn qp qp0 qn2
      go_enter Tryz.func257, Tryz.ntmps257
      go_upto_region 1 with fail
      rw [← hW]
      clear hW
      have hk := H_hk.out
      have qn := H_qn.out
      have qp := H_qp.out
      have qp0 := H_qp0.out
      have qn2 := H_qn2.out
      go_wp2_with (first
        | (go_at_call 174; with_reducible refine (HNM.out _).mono ?_; rintro e wn ⟨rfl, hbn⟩; rw [HV.out]; have X := X.below hbn zl; have hcur := hcur.trans (hbn.mono (Nat.le_of_lt zl)); have zl := Nat.lt_of_lt_of_le zl hbn.size; have Xq := X; obtain ⟨a0, a1, a2, a3, a4, a5, a6, a7⟩ := Xq)
        | (go_at_call 280; with_reducible refine (ieqz_any d B _ (hd.below (hcur.mono hB)) (Nat.le_trans hB hcur.size)).mono ?_; rintro e wn ⟨rfl, hbn⟩; rw [HDZ.out]; have X := X.below hbn zl; have hcur := hcur.trans (hbn.mono (Nat.le_of_lt zl)); have zl := Nat.lt_of_lt_of_le zl hbn.size; have Xq := X; obtain ⟨a0, a1, a2, a3, a4, a5, a6, a7⟩ := Xq))
      go_ret
      exact ⟨by first | exact ret_bool HS.out.symm | exact ret_bool (by rw [HS.out]; simp), hcur⟩
    · have qp0 : ((d.a.s.length : Int) == 0) = true := len_zero_beq qp
      have hS : d.a.own = true := by simp [Ko.own, Ko.isVar, hk, qn, qp, qp0]
      have HS := Lib.hid hS
      clear hS
      have H_hk := Lib.hid hk
      have H_qn := Lib.hid qn
      have H_qp := Lib.hid qp
      have H_qp0 := Lib.hid qp0
      have H_qn2 := Lib.hid qn2
      clear hk qn qp qp0 qn2
      go_enter Tryz.func257, Tryz.ntmps257
      go_upto_region 1 with fail
      rw [← hW]
      clear hW
      have hk := H_hk.out
      have qn := H_qn.out
      have qp := H_qp.out
      have qp0 := H_qp0.out
      have qn2 := H_qn2.out
      go_wp2_with (first
        | (go_at_call 174; with_reducible refine (HNM.out _).mono ?_; rintro e wn ⟨rfl, hbn⟩; rw [HV.out]; have X := X.below hbn zl; have hcur := hcur.trans (hbn.mono (Nat.le_of_lt zl)); have zl := Nat.lt_of_lt_of_le zl hbn.size; have Xq := X; obtain ⟨a0, a1, a2, a3, a4, a5, a6, a7⟩ := Xq)
        | (go_at_call 280; with_reducible refine (ieqz_any d B _ (hd.below (hcur.mono hB)) (Nat.le_trans hB hcur.size)).mono ?_; rintro e wn ⟨rfl, hbn⟩; rw [HDZ.out]; have X := X.below hbn zl; have hcur := hcur.trans (hbn.mono (Nat.le_of_lt zl)); have zl := Nat.lt_of_lt_of_le zl hbn.size; have Xq := X; obtain ⟨a0, a1, a2, a3, a4, a5, a6, a7⟩ := Xq))
      go_ret
      exact ⟨by first | exact ret_bool HS.out.symm | exact ret_bool (by rw [HS.out]; simp), hcur⟩
set_option maxRecDepth 100000 in
set_option maxHeartbeats 800000 in
theorem own2_any (d : Tr Ko) (B : Nat) (w : World) (hin : Ko.E.In w B d) (hB : B ≤ w.heap.size) (hsz : d.a.d.size ≤ 2000000) (hk : d.a.k = 2) : Calls Tryz.prog 257 #[Ko.val d] w fun e w' => e = .returned (.bool d.a.own) ∧ Below w.heap.size w w' := by
  have hd := (Ko.E_in hin).1.d
  obtain ⟨W, hW⟩ : ∃ W, W = w.alloc (.cells #[.int .i64 d.a.k, .int .i64 d.a.n, .slice d.a.sA d.a.s.length d.a.sC, .int .i64 d.a.d.k, .int .i64 d.a.d.n, .string d.a.d.t, .slice d.a.d.A d.a.d.l.length d.a.d.c, .slice d.A d.l.length d.c] 35) := ⟨_, rfl⟩
  have zW : W.heap.size = w.heap.size + 1 := by rw [hW]; simp
  have zl : w.heap.size < W.heap.size := by omega
  have hcur : Below w.heap.size w W := by rw [hW]; exact (Below.refl _ _).alloc (Nat.le_refl _) _
  have X : Ko.Box W w.heap.size d := by rw [hW]; exact Ko.Box.new _ _ _
  clear zW
  have HV : Hid (d.a.isVar = true) := by show _ = _; unfold Ko.isVar; rw [hk]; rfl
  have HNM : Hid (∀ w' : World, Calls Tryz.prog 174 #[.agg #[.int .i64 2, .int .i64 d.a.n, .slice d.a.sA d.a.s.length d.a.sC, .int .i64 d.a.d.k, .int .i64 d.a.d.n, .string d.a.d.t, .slice d.a.d.A d.a.d.l.length d.a.d.c, .slice d.A d.l.length d.c]] w' fun e w'' => e = .returned (.bool d.a.isVar) ∧ Below w'.heap.size w' w'') := fun w' => by
    have h := implVar_u d w'
    rwa [hk] at h
  unfold Ko.val
  have Xq := X
  obtain ⟨a0, a1, a2, a3, a4, a5, a6, a7⟩ := Xq
  cases qn : (d.a.n == 0)
  · have qn2 : (d.a.n != 0) = true := by unfold bne; rw [qn]; rfl
    by_cases qp : (0 : Int) < (d.a.s.length : Int)
    · have qp0 : ((d.a.s.length : Int) == 0) = false := len_pos_beq qp
      have hS : d.a.own = false := by simp [Ko.own, Ko.isVar, hk, qn, qp, qp0]
      have HS := Lib.hid hS
      clear hS
      have H_hk := Lib.hid hk
      have H_qn := Lib.hid qn
      have H_qp := Lib.hid qp
      have H_qp0 := Lib.hid qp0
      have H_qn2 := Lib.hid qn2
      clear hk qn qp qp0 qn2
      go_enter Tryz.func257, Tryz.ntmps257
      go_upto_region 1 with fail
      rw [← hW]
      clear hW
      have hk := H_hk.out
      have qn := H_qn.out
      have qp := H_qp.out
      have qp0 := H_qp0.out
      have qn2 := H_qn2.out
      go_wp2_with (first
        | (go_at_call 174; with_reducible refine (HNM.out _).mono ?_; rintro e wn ⟨rfl, hbn⟩; rw [HV.out]; have X := X.below hbn zl; have hcur := hcur.trans (hbn.mono (Nat.le_of_lt zl)); have zl := Nat.lt_of_lt_of_le zl hbn.size; have Xq := X; obtain ⟨a0, a1, a2, a3, a4, a5, a6, a7⟩ := Xq)
        | (go_at_call 280; with_reducible refine (ieqz_any d B _ (hd.below (hcur.mono hB)) (Nat.le_trans hB hcur.size)).mono ?_; rintro e wn ⟨rfl, hbn⟩; rw [HDZ.out]; have X := X.below hbn zl; have hcur := hcur.trans (hbn.mono (Nat.le_of_lt zl)); have zl := Nat.lt_of_lt_of_le zl hbn.size; have Xq := X; obtain ⟨a0, a1, a2, a3, a4, a5, a6, a7⟩ := Xq))
      go_ret
      exact ⟨by first | exact ret_bool HS.out.symm | exact ret_bool (by rw [HS.out]; simp), hcur⟩
    · have qp0 : ((d.a.s.length : Int) == 0) = true := len_zero_beq qp
      cases qz : d.a.dz
      · have HDZ : Hid (D.eqB d.a.d zeroD = false) := qz
        have hS : d.a.own = false := by simp [Ko.own, Ko.isVar, hk, qn, qp, qp0, qz]
        have HS := Lib.hid hS
        clear hS
        have H_hk := Lib.hid hk
        have H_qn := Lib.hid qn
        have H_qp := Lib.hid qp
        have H_qp0 := Lib.hid qp0
        have H_qz := Lib.hid qz
        have H_qn2 := Lib.hid qn2
        clear hk qn qp qp0 qz qn2
        go_enter Tryz.func257, Tryz.ntmps257
        go_upto_region 1 with fail
        rw [← hW]
        clear hW
        have hk := H_hk.out
        have qn := H_qn.out
        have qp := H_qp.out
        have qp0 := H_qp0.out
        have qz := H_qz.out
        have qn2 := H_qn2.out
        go_wp2_with (first
          | (go_at_call 174; with_reducible refine (HNM.out _).mono ?_; rintro e wn ⟨rfl, hbn⟩; rw [HV.out]; have X := X.below hbn zl; have hcur := hcur.trans (hbn.mono (Nat.le_of_lt zl)); have zl := Nat.lt_of_lt_of_le zl hbn.size; have Xq := X; obtain ⟨a0, a1, a2, a3, a4, a5, a6, a7⟩ := Xq)
          | (go_at_call 280; with_reducible refine (ieqz_any d B _ (hd.below (hcur.mono hB)) (Nat.le_trans hB hcur.size)).mono ?_; rintro e wn ⟨rfl, hbn⟩; rw [HDZ.out]; have X := X.below hbn zl; have hcur := hcur.trans (hbn.mono (Nat.le_of_lt zl)); have zl := Nat.lt_of_lt_of_le zl hbn.size; have Xq := X; obtain ⟨a0, a1, a2, a3, a4, a5, a6, a7⟩ := Xq))
        go_ret
        exact ⟨by first | exact ret_bool HS.out.symm | exact ret_bool (by rw [HS.out]; simp), hcur⟩
      · have HDZ : Hid (D.eqB d.a.d zeroD = true) := qz
        have hS : d.a.own = true := by simp [Ko.own, Ko.isVar, hk, qn, qp, qp0, qz]
        have HS := Lib.hid hS
        clear hS
        have H_hk := Lib.hid hk
        have H_qn := Lib.hid qn
        have H_qp := Lib.hid qp
        have H_qp0 := Lib.hid qp0
        have H_qz := Lib.hid qz
        have H_qn2 := Lib.hid qn2
        clear hk qn qp qp0 qz qn2
        go_enter Tryz.func257, Tryz.ntmps257
        go_upto_region 1 with fail
        rw [← hW]
        clear hW
        have hk := H_hk.out
        have qn := H_qn.out
        have qp := H_qp.out
        have qp0 := H_qp0.out
        have qz := H_qz.out
        have qn2 := H_qn2.out
        go_wp2_with (first
          | (go_at_call 174; with_reducible refine (HNM.out _).mono ?_; rintro e wn ⟨rfl, hbn⟩; rw [HV.out]; have X := X.below hbn zl; have hcur := hcur.trans (hbn.mono (Nat.le_of_lt zl)); have zl := Nat.lt_of_lt_of_le zl hbn.size; have Xq := X; obtain ⟨a0, a1, a2, a3, a4, a5, a6, a7⟩ := Xq)
          | (go_at_call 280; with_reducible refine (ieqz_any d B _ (hd.below (hcur.mono hB)) (Nat.le_trans hB hcur.size)).mono ?_; rintro e wn ⟨rfl, hbn⟩; rw [HDZ.out]; have X := X.below hbn zl; have hcur := hcur.trans (hbn.mono (Nat.le_of_lt zl)); have zl := Nat.lt_of_lt_of_le zl hbn.size; have Xq := X; obtain ⟨a0, a1, a2, a3, a4, a5, a6, a7⟩ := Xq))
        go_ret
        exact ⟨by first | exact ret_bool HS.out.symm | exact ret_bool (by rw [HS.out]; simp), hcur⟩
  · have qn2 : (d.a.n != 0) = false := by unfold bne; rw [qn]; rfl
    by_cases qp : (0 : Int) < (d.a.s.length : Int)
    · have qp0 : ((d.a.s.length : Int) == 0) = false := len_pos_beq qp
      have hS : d.a.own = false := by simp [Ko.own, Ko.isVar, hk, qn, qp, qp0]
      have HS := Lib.hid hS
      clear hS
      have H_hk := Lib.hid hk
      have H_qn := Lib.hid qn
      have H_qp := Lib.hid qp
      have H_qp0 := Lib.hid qp0
      have H_qn2 := Lib.hid qn2
      clear hk qn qp qp0 qn2
      go_enter Tryz.func257, Tryz.ntmps257
      go_upto_region 1 with fail
      rw [← hW]
      clear hW
      have hk := H_hk.out
      have qn := H_qn.out
      have qp := H_qp.out
      have qp0 := H_qp0.out
      have qn2 := H_qn2.out
      go_wp2_with (first
        | (go_at_call 174; with_reducible refine (HNM.out _).mono ?_; rintro e wn ⟨rfl, hbn⟩; rw [HV.out]; have X := X.below hbn zl; have hcur := hcur.trans (hbn.mono (Nat.le_of_lt zl)); have zl := Nat.lt_of_lt_of_le zl hbn.size; have Xq := X; obtain ⟨a0, a1, a2, a3, a4, a5, a6, a7⟩ := Xq)
        | (go_at_call 280; with_reducible refine (ieqz_any d B _ (hd.below (hcur.mono hB)) (Nat.le_trans hB hcur.size)).mono ?_; rintro e wn ⟨rfl, hbn⟩; rw [HDZ.out]; have X := X.below hbn zl; have hcur := hcur.trans (hbn.mono (Nat.le_of_lt zl)); have zl := Nat.lt_of_lt_of_le zl hbn.size; have Xq := X; obtain ⟨a0, a1, a2, a3, a4, a5, a6, a7⟩ := Xq))
      go_ret
      exact ⟨by first | exact ret_bool HS.out.symm | exact ret_bool (by rw [HS.out]; simp), hcur⟩
    · have qp0 : ((d.a.s.length : Int) == 0) = true := len_zero_beq qp
      cases qz : d.a.dz
      · have HDZ : Hid (D.eqB d.a.d zeroD = false) := qz
        have hS : d.a.own = false := by simp [Ko.own, Ko.isVar, hk, qn, qp, qp0, qz]
        have HS := Lib.hid hS
        clear hS
        have H_hk := Lib.hid hk
        have H_qn := Lib.hid qn
        have H_qp := Lib.hid qp
        have H_qp0 := Lib.hid qp0
        have H_qz := Lib.hid qz
        have H_qn2 := Lib.hid qn2
        clear hk qn qp qp0 qz qn2
        go_enter Tryz.func257, Tryz.ntmps257
        go_upto_region 1 with fail
        rw [← hW]
        clear hW
        have hk := H_hk.out
        have qn := H_qn.out
        have qp := H_qp.out
        have qp0 := H_qp0.out
        have qz := H_qz.out
        have qn2 := H_qn2.out
        go_wp2_with (first
          | (go_at_call 174; with_reducible refine (HNM.out _).mono ?_; rintro e wn ⟨rfl, hbn⟩; rw [HV.out]; have X := X.below hbn zl; have hcur := hcur.trans (hbn.mono (Nat.le_of_lt zl)); have zl := Nat.lt_of_lt_of_le zl hbn.size; have Xq := X; obtain ⟨a0, a1, a2, a3, a4, a5, a6, a7⟩ := Xq)
          | (go_at_call 280; with_reducible refine (ieqz_any d B _ (hd.below (hcur.mono hB)) (Nat.le_trans hB hcur.size)).mono ?_; rintro e wn ⟨rfl, hbn⟩; rw [HDZ.out]; have X := X.below hbn zl; have hcur := hcur.trans (hbn.mono (Nat.le_of_lt zl)); have zl := Nat.lt_of_lt_of_le zl hbn.size; have Xq := X; obtain ⟨a0, a1, a2, a3, a4, a5, a6, a7⟩ := Xq))
        go_ret
        exact ⟨by first | exact ret_bool HS.out.symm | exact ret_bool (by rw [HS.out]; simp), hcur⟩
      · have HDZ : Hid (D.eqB d.a.d zeroD = true) := qz
        have hS : d.a.own = true := by simp [Ko.own, Ko.isVar, hk, qn, qp, qp0, qz]
        have HS := Lib.hid hS
        clear hS
        have H_hk := Lib.hid hk
        have H_qn := Lib.hid qn
        have H_qp := Lib.hid qp
        have H_qp0 := Lib.hid qp0
        have H_qz := Lib.hid qz
        have H_qn2 := Lib.hid qn2
        clear hk qn qp qp0 qz qn2
        go_enter Tryz.func257, Tryz.ntmps257
        go_upto_region 1 with fail
        rw [← hW]
        clear hW
        have hk := H_hk.out
        have qn := H_qn.out
        have qp := H_qp.out
        have qp0 := H_qp0.out
        have qz := H_qz.out
        have qn2 := H_qn2.out
        go_wp2_with (first
          | (go_at_call 174; with_reducible refine (HNM.out _).mono ?_; rintro e wn ⟨rfl, hbn⟩; rw [HV.out]; have X := X.below hbn zl; have hcur := hcur.trans (hbn.mono (Nat.le_of_lt zl)); have zl := Nat.lt_of_lt_of_le zl hbn.size; have Xq := X; obtain ⟨a0, a1, a2, a3, a4, a5, a6, a7⟩ := Xq)
          | (go_at_call 280; with_reducible refine (ieqz_any d B _ (hd.below (hcur.mono hB)) (Nat.le_trans hB hcur.size)).mono ?_; rintro e wn ⟨rfl, hbn⟩; rw [HDZ.out]; have X := X.below hbn zl; have hcur := hcur.trans (hbn.mono (Nat.le_of_lt zl)); have zl := Nat.lt_of_lt_of_le zl hbn.size; have Xq := X; obtain ⟨a0, a1, a2, a3, a4, a5, a6, a7⟩ := Xq))
        go_ret
        exact ⟨by first | exact ret_bool HS.out.symm | exact ret_bool (by rw [HS.out]; simp), hcur⟩
set_option maxRecDepth 100000 in
set_option maxHeartbeats 800000 in
theorem own3_any (d : Tr Ko) (B : Nat) (w : World) (hin : Ko.E.In w B d) (hB : B ≤ w.heap.size) (hsz : d.a.d.size ≤ 2000000) (hk : d.a.k = 3) : Calls Tryz.prog 257 #[Ko.val d] w fun e w' => e = .returned (.bool d.a.own) ∧ Below w.heap.size w w' := by
  have hd := (Ko.E_in hin).1.d
  obtain ⟨W, hW⟩ : ∃ W, W = w.alloc (.cells #[.int .i64 d.a.k, .int .i64 d.a.n, .slice d.a.sA d.a.s.length d.a.sC, .int .i64 d.a.d.k, .int .i64 d.a.d.n, .string d.a.d.t, .slice d.a.d.A d.a.d.l.length d.a.d.c, .slice d.A d.l.length d.c] 35) := ⟨_, rfl⟩
  have zW : W.heap.size = w.heap.size + 1 := by rw [hW]; simp
  have zl : w.heap.size < W.heap.size := by omega
  have hcur : Below w.heap.size w W := by rw [hW]; exact (Below.refl _ _).alloc (Nat.le_refl _) _
  have X : Ko.Box W w.heap.size d := by rw [hW]; exact Ko.Box.new _ _ _
  clear zW
  have HV : Hid (d.a.isVar = false) := by show _ = _; unfold Ko.isVar; rw [hk]; rfl
  have HNM : Hid (∀ w' : World, Calls Tryz.prog 174 #[.agg #[.int .i64 3, .int .i64 d.a.n, .slice d.a.sA d.a.s.length d.a.sC, .int .i64 d.a.d.k, .int .i64 d.a.d.n, .string d.a.d.t, .slice d.a.d.A d.a.d.l.length d.a.d.c, .slice d.A d.l.length d.c]] w' fun e w'' => e = .returned (.bool d.a.isVar) ∧ Below w'.heap.size w' w'') := fun w' => by
    have h := implVar_u d w'
    rwa [hk] at h
  unfold Ko.val
  have Xq := X
  obtain ⟨a0, a1, a2, a3, a4, a5, a6, a7⟩ := Xq
  cases qn : (d.a.n == 0)
  · have qn2 : (d.a.n != 0) = true := by unfold bne; rw [qn]; rfl
    by_cases qp : (0 : Int) < (d.a.s.length : Int)
    · have qp0 : ((d.a.s.length : Int) == 0) = false := len_pos_beq qp
      have hS : d.a.own = false := by simp [Ko.own, Ko.isVar, hk, qn, qp, qp0]
      have HS := Lib.hid hS
      clear hS
      have H_hk := Lib.hid hk
      have H_qn := Lib.hid qn
      have H_qp := Lib.hid qp
      have H_qp0 := Lib.hid qp0
      have H_qn2 := Lib.hid qn2
      clear hk qn qp qp0 qn2
      go_enter Tryz.func257, Tryz.ntmps257
      go_upto_region 1 with fail
      rw [← hW]
      clear hW
      have hk := H_hk.out
      have qn := H_qn.out
      have qp := H_qp.out
      have qp0 := H_qp0.out
      have qn2 := H_qn2.out
      go_wp2_with (first
        | (go_at_call 174; with_reducible refine (HNM.out _).mono ?_; rintro e wn ⟨rfl, hbn⟩; rw [HV.out]; have X := X.below hbn zl; have hcur := hcur.trans (hbn.mono (Nat.le_of_lt zl)); have zl := Nat.lt_of_lt_of_le zl hbn.size; have Xq := X; obtain ⟨a0, a1, a2, a3, a4, a5, a6, a7⟩ := Xq)
        | (go_at_call 280; with_reducible refine (ieqz_any d B _ (hd.below (hcur.mono hB)) (Nat.le_trans hB hcur.size)).mono ?_; rintro e wn ⟨rfl, hbn⟩; rw [HDZ.out]; have X := X.below hbn zl; have hcur := hcur.trans (hbn.mono (Nat.le_of_lt zl)); have zl := Nat.lt_of_lt_of_le zl hbn.size; have Xq := X; obtain ⟨a0, a1, a2, a3, a4, a5, a6, a7⟩ := Xq))
      go_ret
      exact ⟨by first | exact ret_bool HS.out.symm | exact ret_bool (by rw [HS.out]; simp), hcur⟩
    · have qp0 : ((d.a.s.length : Int) == 0) = true := len_zero_beq qp
      cases qz : d.a.dz
      · have HDZ : Hid (D.eqB d.a.d zeroD = false) := qz
        have hS : d.a.own = false := by simp [Ko.own, Ko.isVar, hk, qn, qp, qp0, qz]
        have HS := Lib.hid hS
        clear hS
        have H_hk := Lib.hid hk
        have H_qn := Lib.hid qn
        have H_qp := Lib.hid qp
        have H_qp0 := Lib.hid qp0
        have H_qz := Lib.hid qz
        have H_qn2 := Lib.hid qn2
        clear hk qn qp qp0 qz qn2
        go_enter Tryz.func257, Tryz.ntmps257
        go_upto_region 1 with fail
        rw [← hW]
        clear hW
        have hk := H_hk.out
        have qn := H_qn.out
        have qp := H_qp.out
        have qp0 := H_qp0.out
        have qz := H_qz.out
        have qn2 := H_qn2.out
        go_wp2_with (first
          | (go_at_call 174; with_reducible refine (HNM.out _).mono ?_; rintro e wn ⟨rfl, hbn⟩; rw [HV.out]; have X := X.below hbn zl; have hcur := hcur.trans (hbn.mono (Nat.le_of_lt zl)); have zl := Nat.lt_of_lt_of_le zl hbn.size; have Xq := X; obtain ⟨a0, a1, a2, a3, a4, a5, a6, a7⟩ := Xq)
          | (go_at_call 280; with_reducible refine (ieqz_any d B _ (hd.below (hcur.mono hB)) (Nat.le_trans hB hcur.size)).mono ?_; rintro e wn ⟨rfl, hbn⟩; rw [HDZ.out]; have X := X.below hbn zl; have hcur := hcur.trans (hbn.mono (Nat.le_of_lt zl)); have zl := Nat.lt_of_lt_of_le zl hbn.size; have Xq := X; obtain ⟨a0, a1, a2, a3, a4, a5, a6, a7⟩ := Xq))
        go_ret
        exact ⟨by first | exact ret_bool HS.out.symm | exact ret_bool (by rw [HS.out]; simp), hcur⟩
      · have HDZ : Hid (D.eqB d.a.d zeroD = true) := qz
        have hS : d.a.own = true := by simp [Ko.own, Ko.isVar, hk, qn, qp, qp0, qz]
        have HS := Lib.hid hS
        clear hS
        have H_hk := Lib.hid hk
        have H_qn := Lib.hid qn
        have H_qp := Lib.hid qp
        have H_qp0 := Lib.hid qp0
        have H_qz := Lib.hid qz
        have H_qn2 := Lib.hid qn2
        clear hk qn qp qp0 qz qn2
        go_enter Tryz.func257, Tryz.ntmps257
        go_upto_region 1 with fail
        rw [← hW]
        clear hW
        have hk := H_hk.out
        have qn := H_qn.out
        have qp := H_qp.out
        have qp0 := H_qp0.out
        have qz := H_qz.out
        have qn2 := H_qn2.out
        go_wp2_with (first
          | (go_at_call 174; with_reducible refine (HNM.out _).mono ?_; rintro e wn ⟨rfl, hbn⟩; rw [HV.out]; have X := X.below hbn zl; have hcur := hcur.trans (hbn.mono (Nat.le_of_lt zl)); have zl := Nat.lt_of_lt_of_le zl hbn.size; have Xq := X; obtain ⟨a0, a1, a2, a3, a4, a5, a6, a7⟩ := Xq)
          | (go_at_call 280; with_reducible refine (ieqz_any d B _ (hd.below (hcur.mono hB)) (Nat.le_trans hB hcur.size)).mono ?_; rintro e wn ⟨rfl, hbn⟩; rw [HDZ.out]; have X := X.below hbn zl; have hcur := hcur.trans (hbn.mono (Nat.le_of_lt zl)); have zl := Nat.lt_of_lt_of_le zl hbn.size; have Xq := X; obtain ⟨a0, a1, a2, a3, a4, a5, a6, a7⟩ := Xq))
        go_ret
        exact ⟨by first | exact ret_bool HS.out.symm | exact ret_bool (by rw [HS.out]; simp), hcur⟩
  · have qn2 : (d.a.n != 0) = false := by unfold bne; rw [qn]; rfl
    by_cases qp : (0 : Int) < (d.a.s.length : Int)
    · have qp0 : ((d.a.s.length : Int) == 0) = false := len_pos_beq qp
      have hS : d.a.own = false := by simp [Ko.own, Ko.isVar, hk, qn, qp, qp0]
      have HS := Lib.hid hS
      clear hS
      have H_hk := Lib.hid hk
      have H_qn := Lib.hid qn
      have H_qp := Lib.hid qp
      have H_qp0 := Lib.hid qp0
      have H_qn2 := Lib.hid qn2
      clear hk qn qp qp0 qn2
      go_enter Tryz.func257, Tryz.ntmps257
      go_upto_region 1 with fail
      rw [← hW]
      clear hW
      have hk := H_hk.out
      have qn := H_qn.out
      have qp := H_qp.out
      have qp0 := H_qp0.out
      have qn2 := H_qn2.out
      go_wp2_with (first
        | (go_at_call 174; with_reducible refine (HNM.out _).mono ?_; rintro e wn ⟨rfl, hbn⟩; rw [HV.out]; have X := X.below hbn zl; have hcur := hcur.trans (hbn.mono (Nat.le_of_lt zl)); have zl := Nat.lt_of_lt_of_le zl hbn.size; have Xq := X; obtain ⟨a0, a1, a2, a3, a4, a5, a6, a7⟩ := Xq)
        | (go_at_call 280; with_reducible refine (ieqz_any d B _ (hd.below (hcur.mono hB)) (Nat.le_trans hB hcur.size)).mono ?_; rintro e wn ⟨rfl, hbn⟩; rw [HDZ.out]; have X := X.below hbn zl; have hcur := hcur.trans (hbn.mono (Nat.le_of_lt zl)); have zl := Nat.lt_of_lt_of_le zl hbn.size; have Xq := X; obtain ⟨a0, a1, a2, a3, a4, a5, a6, a7⟩ := Xq))
      go_ret
      exact ⟨by first | exact ret_bool HS.out.symm | exact ret_bool (by rw [HS.out]; simp), hcur⟩
    · have qp0 : ((d.a.s.length : Int) == 0) = true := len_zero_beq qp
      cases qz : d.a.dz
      · have HDZ : Hid (D.eqB d.a.d zeroD = false) := qz
        have hS : d.a.own = false := by simp [Ko.own, Ko.isVar, hk, qn, qp, qp0, qz]
        have HS := Lib.hid hS
        clear hS
        have H_hk := Lib.hid hk
        have H_qn := Lib.hid qn
        have H_qp := Lib.hid qp
        have H_qp0 := Lib.hid qp0
        have H_qz := Lib.hid qz
        have H_qn2 := Lib.hid qn2
        clear hk qn qp qp0 qz qn2
        go_enter Tryz.func257, Tryz.ntmps257
        go_upto_region 1 with fail
        rw [← hW]
        clear hW
        have hk := H_hk.out
        have qn := H_qn.out
        have qp := H_qp.out
        have qp0 := H_qp0.out
        have qz := H_qz.out
        have qn2 := H_qn2.out
        go_wp2_with (first
          | (go_at_call 174; with_reducible refine (HNM.out _).mono ?_; rintro e wn ⟨rfl, hbn⟩; rw [HV.out]; have X := X.below hbn zl; have hcur := hcur.trans (hbn.mono (Nat.le_of_lt zl)); have zl := Nat.lt_of_lt_of_le zl hbn.size; have Xq := X; obtain ⟨a0, a1, a2, a3, a4, a5, a6, a7⟩ := Xq)
          | (go_at_call 280; with_reducible refine (ieqz_any d B _ (hd.below (hcur.mono hB)) (Nat.le_trans hB hcur.size)).mono ?_; rintro e wn ⟨rfl, hbn⟩; rw [HDZ.out]; have X := X.below hbn zl; have hcur := hcur.trans (hbn.mono (Nat.le_of_lt zl)); have zl := Nat.lt_of_lt_of_le zl hbn.size; have Xq := X; obtain ⟨a0, a1, a2, a3, a4, a5, a6, a7⟩ := Xq))
        go_ret
        exact ⟨by first | exact ret_bool HS.out.symm | exact ret_bool (by rw [HS.out]; simp), hcur⟩
      · have HDZ : Hid (D.eqB d.a.d zeroD = true) := qz
        have hS : d.a.own = true := by simp [Ko.own, Ko.isVar, hk, qn, qp, qp0, qz]
        have HS := Lib.hid hS
        clear hS
        have H_hk := Lib.hid hk
        have H_qn := Lib.hid qn
        have H_qp := Lib.hid qp
        have H_qp0 := Lib.hid qp0
        have H_qz := Lib.hid qz
        have H_qn2 := Lib.hid qn2
        clear hk qn qp qp0 qz qn2
        go_enter Tryz.func257, Tryz.ntmps257
        go_upto_region 1 with fail
        rw [← hW]
        clear hW
        have hk := H_hk.out
        have qn := H_qn.out
        have qp := H_qp.out
        have qp0 := H_qp0.out
        have qz := H_qz.out
        have qn2 := H_qn2.out
        go_wp2_with (first
          | (go_at_call 174; with_reducible refine (HNM.out _).mono ?_; rintro e wn ⟨rfl, hbn⟩; rw [HV.out]; have X := X.below hbn zl; have hcur := hcur.trans (hbn.mono (Nat.le_of_lt zl)); have zl := Nat.lt_of_lt_of_le zl hbn.size; have Xq := X; obtain ⟨a0, a1, a2, a3, a4, a5, a6, a7⟩ := Xq)
          | (go_at_call 280; with_reducible refine (ieqz_any d B _ (hd.below (hcur.mono hB)) (Nat.le_trans hB hcur.size)).mono ?_; rintro e wn ⟨rfl, hbn⟩; rw [HDZ.out]; have X := X.below hbn zl; have hcur := hcur.trans (hbn.mono (Nat.le_of_lt zl)); have zl := Nat.lt_of_lt_of_le zl hbn.size; have Xq := X; obtain ⟨a0, a1, a2, a3, a4, a5, a6, a7⟩ := Xq))
        go_ret
        exact ⟨by first | exact ret_bool HS.out.symm | exact ret_bool (by rw [HS.out]; simp), hcur⟩
set_option maxRecDepth 100000 in
set_option maxHeartbeats 800000 in
theorem own4_any (d : Tr Ko) (B : Nat) (w : World) (hin : Ko.E.In w B d) (hB : B ≤ w.heap.size) (hsz : d.a.d.size ≤ 2000000) (hk : d.a.k = 4) : Calls Tryz.prog 257 #[Ko.val d] w fun e w' => e = .returned (.bool d.a.own) ∧ Below w.heap.size w w' := by
  have hd := (Ko.E_in hin).1.d
  obtain ⟨W, hW⟩ : ∃ W, W = w.alloc (.cells #[.int .i64 d.a.k, .int .i64 d.a.n, .slice d.a.sA d.a.s.length d.a.sC, .int .i64 d.a.d.k, .int .i64 d.a.d.n, .string d.a.d.t, .slice d.a.d.A d.a.d.l.length d.a.d.c, .slice d.A d.l.length d.c] 35) := ⟨_, rfl⟩
  have zW : W.heap.size = w.heap.size + 1 := by rw [hW]; simp
  have zl : w.heap.size < W.heap.size := by omega
  have hcur : Below w.heap.size w W := by rw [hW]; exact (Below.refl _ _).alloc (Nat.le_refl _) _
  have X : Ko.Box W w.heap.size d := by rw [hW]; exact Ko.Box.new _ _ _
  clear zW
  have HV : Hid (d.a.isVar = true) := by show _ = _; unfold Ko.isVar; rw [hk]; rfl
  have HNM : Hid (∀ w' : World, Calls Tryz.prog 174 #[.agg #[.int .i64 4, .int .i64 d.a.n, .slice d.a.sA d.a.s.length d.a.sC, .int .i64 d.a.d.k, .int .i64 d.a.d.n, .string d.a.d.t, .slice d.a.d.A d.a.d.l.length d.a.d.c, .slice d.A d.l.length d.c]] w' fun e w'' => e = .returned (.bool d.a.isVar) ∧ Below w'.heap.size w' w'') := fun w' => by
    have h := implVar_u d w'
    rwa [hk] at h
  unfold Ko.val
  have Xq := X
  obtain ⟨a0, a1, a2, a3, a4, a5, a6, a7⟩ := Xq
  cases qn : (d.a.n == 0)
  · have qn2 : (d.a.n != 0) = true := by unfold bne; rw [qn]; rfl
    by_cases qp : (0 : Int) < (d.a.s.length : Int)
    · have qp0 : ((d.a.s.length : Int) == 0) = false := len_pos_beq qp
      have hS : d.a.own = false := by simp [Ko.own, Ko.isVar, hk, qn, qp, qp0]
      have HS := Lib.hid hS
      clear hS
      have H_hk := Lib.hid hk
      have H_qn := Lib.hid qn
      have H_qp := Lib.hid qp
      have H_qp0 := Lib.hid qp0
      have H_qn2 := Lib.hid qn2
      clear hk qn qp qp0 qn2
      go_enter Tryz.func257, Tryz.ntmps257
      go_upto_region 1 with fail
      rw [← hW]
      clear hW
      have hk := H_hk.out
      have qn := H_qn.out
      have qp := H_qp.out
      have qp0 := H_qp0.out
      have qn2 := H_qn2.out
      go_wp2_with (first
        | (go_at_call 174; with_reducible refine (HNM.out _).mono ?_; rintro e wn ⟨rfl, hbn⟩; rw [HV.out]; have X := X.below hbn zl; have hcur := hcur.trans (hbn.mono (Nat.le_of_lt zl)); have zl := Nat.lt_of_lt_of_le zl hbn.size; have Xq := X; obtain ⟨a0, a1, a2, a3, a4, a5, a6, a7⟩ := Xq)
        | (go_at_call 280; with_reducible refine (ieqz_any d B _ (hd.below (hcur.mono hB)) (Nat.le_trans hB hcur.size)).mono ?_; rintro e wn ⟨rfl, hbn⟩; rw [HDZ.out]; have X := X.below hbn zl; have hcur := hcur.trans (hbn.mono (Nat.le_of_lt zl)); have zl := Nat.lt_of_lt_of_le zl hbn.size; have Xq := X; obtain ⟨a0, a1, a2, a3, a4, a5, a6, a7⟩ := Xq))
      go_ret
      exact ⟨by first | exact ret_bool HS.out.symm | exact ret_bool (by rw [HS.out]; simp), hcur⟩
    · have qp0 : ((d.a.s.length : Int) == 0) = true := len_zero_beq qp
      cases qz : d.a.dz
      · have HDZ : Hid (D.eqB d.a.d zeroD = false) := qz
        have hS : d.a.own = false := by simp [Ko.own, Ko.isVar, hk, qn, qp, qp0, qz]
        have HS := Lib.hid hS
        clear hS
        have H_hk := Lib.hid hk
        have H_qn := Lib.hid qn
        have H_qp := Lib.hid qp
        have H_qp0 := Lib.hid qp0
        have H_qz := Lib.hid qz
        have H_qn2 := Lib.hid qn2
        clear hk qn qp qp0 qz qn2
        go_enter Tryz.func257, Tryz.ntmps257
        go_upto_region 1 with fail
        rw [← hW]
        clear hW
        have hk := H_hk.out
        have qn := H_qn.out
        have qp := H_qp.out
        have qp0 := H_qp0.out
        have qz := H_qz.out
        have qn2 := H_qn2.out
        go_wp2_with (first
          | (go_at_call 174; with_reducible refine (HNM.out _).mono ?_; rintro e wn ⟨rfl, hbn⟩; rw [HV.out]; have X := X.below hbn zl; have hcur := hcur.trans (hbn.mono (Nat.le_of_lt zl)); have zl := Nat.lt_of_lt_of_le zl hbn.size; have Xq := X; obtain ⟨a0, a1, a2, a3, a4, a5, a6, a7⟩ := Xq)
          | (go_at_call 280; with_reducible refine (ieqz_any d B _ (hd.below (hcur.mono hB)) (Nat.le_trans hB hcur.size)).mono ?_; rintro e wn ⟨rfl, hbn⟩; rw [HDZ.out]; have X := X.below hbn zl; have hcur := hcur.trans (hbn.mono (Nat.le_of_lt zl)); have zl := Nat.lt_of_lt_of_le zl hbn.size; have Xq := X; obtain ⟨a0, a1, a2, a3, a4, a5, a6, a7⟩ := Xq))
        go_ret
        exact ⟨by first | exact ret_bool HS.out.symm | exact ret_bool (by rw [HS.out]; simp), hcur⟩
      · have HDZ : Hid (D.eqB d.a.d zeroD = true) := qz
        have hS : d.a.own = true := by simp [Ko.own, Ko.isVar, hk, qn, qp, qp0, qz]
        have HS := Lib.hid hS
        clear hS
        have H_hk := Lib.hid hk
        have H_qn := Lib.hid qn
        have H_qp := Lib.hid qp
        have H_qp0 := Lib.hid qp0
        have H_qz := Lib.hid qz
        have H_qn2 := Lib.hid qn2
        clear hk qn qp qp0 qz qn2
        go_enter Tryz.func257, Tryz.ntmps257
        go_upto_region 1 with fail
        rw [← hW]
        clear hW
        have hk := H_hk.out
        have qn := H_qn.out
        have qp := H_qp.out
        have qp0 := H_qp0.out
        have qz := H_qz.out
        have qn2 := H_qn2.out
        go_wp2_with (first
          | (go_at_call 174; with_reducible refine (HNM.out _).mono ?_; rintro e wn ⟨rfl, hbn⟩; rw [HV.out]; have X := X.below hbn zl; have hcur := hcur.trans (hbn.mono (Nat.le_of_lt zl)); have zl := Nat.lt_of_lt_of_le zl hbn.size; have Xq := X; obtain ⟨a0, a1, a2, a3, a4, a5, a6, a7⟩ := Xq)
          | (go_at_call 280; with_reducible refine (ieqz_any d B _ (hd.below (hcur.mono hB)) (Nat.le_trans hB hcur.size)).mono ?_; rintro e wn ⟨rfl, hbn⟩; rw [HDZ.out]; have X := X.below hbn zl; have hcur := hcur.trans (hbn.mono (Nat.le_of_lt zl)); have zl := Nat.lt_of_lt_of_le zl hbn.size; have Xq := X; obtain ⟨a0, a1, a2, a3, a4, a5, a6, a7⟩ := Xq))
        go_ret
        exact ⟨by first | exact ret_bool HS.out.symm | exact ret_bool (by rw [HS.out]; simp), hcur⟩
  · have qn2 : (d.a.n != 0) = false := by unfold bne; rw [qn]; rfl
    by_cases qp : (0 : Int) < (d.a.s.length : Int)
    · have qp0 : ((d.a.s.length : Int) == 0) = false := len_pos_beq qp
      have hS : d.a.own = false := by simp [Ko.own, Ko.isVar, hk, qn, qp, qp0]
      have HS := Lib.hid hS
      clear hS
      have H_hk := Lib.hid hk
      have H_qn := Lib.hid qn
      have H_qp := Lib.hid qp
      have H_qp0 := Lib.hid qp0
      have H_qn2 := Lib.hid qn2
      clear hk qn qp qp0 qn2
      go_enter Tryz.func257, Tryz.ntmps257
      go_upto_region 1 with fail
      rw [← hW]
      clear hW
      have hk := H_hk.out
      have qn := H_qn.out
      have qp := H_qp.out
      have qp0 := H_qp0.out
      have qn2 := H_qn2.out
      go_wp2_with (first
        | (go_at_call 174; with_reducible refine (HNM.out _).mono ?_; rintro e wn ⟨rfl, hbn⟩; rw [HV.out]; have X := X.below hbn zl; have hcur := hcur.trans (hbn.mono (Nat.le_of_lt zl)); have zl := Nat.lt_of_lt_of_le zl hbn.size; have Xq := X; obtain ⟨a0, a1, a2, a3, a4, a5, a6, a7⟩ := Xq)
        | (go_at_call 280; with_reducible refine (ieqz_any d B _ (hd.below (hcur.mono hB)) (Nat.le_trans hB hcur.size)).mono ?_; rintro e wn ⟨rfl, hbn⟩; rw [HDZ.out]; have X := X.below hbn zl; have hcur := hcur.trans (hbn.mono (Nat.le_of_lt zl)); have zl := Nat.lt_of_lt_of_le zl hbn.size; have Xq := X; obtain ⟨a0, a1, a2, a3, a4, a5, a6, a7⟩ := Xq))
      go_ret
      exact ⟨by first | exact ret_bool HS.out.symm | exact ret_bool (by rw [HS.out]; simp), hcur⟩
    · have qp0 : ((d.a.s.length : Int) == 0) = true := len_zero_beq qp
      cases qz : d.a.dz
      · have HDZ : Hid (D.eqB d.a.d zeroD = false) := qz
        have hS : d.a.own = false := by simp [Ko.own, Ko.isVar, hk, qn, qp, qp0, qz]
        have HS := Lib.hid hS
        clear hS
        have H_hk := Lib.hid hk
        have H_qn := Lib.hid qn
        have H_qp := Lib.hid qp
        have H_qp0 := Lib.hid qp0
        have H_qz := Lib.hid qz
        have H_qn2 := Lib.hid qn2
        clear hk qn qp qp0 qz qn2
        go_enter Tryz.func257, Tryz.ntmps257
        go_upto_region 1 with fail
        rw [← hW]
        clear hW
        have hk := H_hk.out
        have qn := H_qn.out
        have qp := H_qp.out
        have qp0 := H_qp0.out
        have qz := H_qz.out
        have qn2 := H_qn2.out
        go_wp2_with (first
          | (go_at_call 174; with_reducible refine (HNM.out _).mono ?_; rintro e wn ⟨rfl, hbn⟩; rw [HV.out]; have X := X.below hbn zl; have hcur := hcur.trans (hbn.mono (Nat.le_of_lt zl)); have zl := Nat.lt_of_lt_of_le zl hbn.size; have Xq := X; obtain ⟨a0, a1, a2, a3, a4, a5, a6, a7⟩ := Xq)
          | (go_at_call 280; with_reducible refine (ieqz_any d B _ (hd.below (hcur.mono hB)) (Nat.le_trans hB hcur.size)).mono ?_; rintro e wn ⟨rfl, hbn⟩; rw [HDZ.out]; have X := X.below hbn zl; have hcur := hcur.trans (hbn.mono (Nat.le_of_lt zl)); have zl := Nat.lt_of_lt_of_le zl hbn.size; have Xq := X; obtain ⟨a0, a1, a2, a3, a4, a5, a6, a7⟩ := Xq))
        go_ret
        exact ⟨by first | exact ret_bool HS.out.symm | exact ret_bool (by rw [HS.out]; simp), hcur⟩
      · have HDZ : Hid (D.eqB d.a.d zeroD = true) := qz
        have hS : d.a.own = true := by simp [Ko.own, Ko.isVar, hk, qn, qp, qp0, qz]
        have HS := Lib.hid hS
        clear hS
        have H_hk := Lib.hid hk
        have H_qn := Lib.hid qn
        have H_qp := Lib.hid qp
        have H_qp0 := Lib.hid qp0
        have H_qz := Lib.hid qz
        have H_qn2 := Lib.hid qn2
        clear hk qn qp qp0 qz qn2
        go_enter Tryz.func257, Tryz.ntmps257
        go_upto_region 1 with fail
        rw [← hW]
        clear hW
        have hk := H_hk.out
        have qn := H_qn.out
        have qp := H_qp.out
        have qp0 := H_qp0.out
        have qz := H_qz.out
        have qn2 := H_qn2.out
        go_wp2_with (first
          | (go_at_call 174; with_reducible refine (HNM.out _).mono ?_; rintro e wn ⟨rfl, hbn⟩; rw [HV.out]; have X := X.below hbn zl; have hcur := hcur.trans (hbn.mono (Nat.le_of_lt zl)); have zl := Nat.lt_of_lt_of_le zl hbn.size; have Xq := X; obtain ⟨a0, a1, a2, a3, a4, a5, a6, a7⟩ := Xq)
          | (go_at_call 280; with_reducible refine (ieqz_any d B _ (hd.below (hcur.mono hB)) (Nat.le_trans hB hcur.size)).mono ?_; rintro e wn ⟨rfl, hbn⟩; rw [HDZ.out]; have X := X.below hbn zl; have hcur := hcur.trans (hbn.mono (Nat.le_of_lt zl)); have zl := Nat.lt_of_lt_of_le zl hbn.size; have Xq := X; obtain ⟨a0, a1, a2, a3, a4, a5, a6, a7⟩ := Xq))
        go_ret
        exact ⟨by first | exact ret_bool HS.out.symm | exact ret_bool (by rw [HS.out]; simp), hcur⟩
set_option maxRecDepth 100000 in
set_option maxHeartbeats 800000 in
theorem own5_any (d : Tr Ko) (B : Nat) (w : World) (hin : Ko.E.In w B d) (hB : B ≤ w.heap.size) (hsz : d.a.d.size ≤ 2000000) (hk : d.a.k = 5) : Calls Tryz.prog 257 #[Ko.val d] w fun e w' => e = .returned (.bool d.a.own) ∧ Below w.heap.size w w' := by
  have hd := (Ko.E_in hin).1.d
  obtain ⟨W, hW⟩ : ∃ W, W = w.alloc (.cells #[.int .i64 d.a.k, .int .i64 d.a.n, .slice d.a.sA d.a.s.length d.a.sC, .int .i64 d.a.d.k, .int .i64 d.a.d.n, .string d.a.d.t, .slice d.a.d.A d.a.d.l.length d.a.d.c, .slice d.A d.l.length d.c] 35) := ⟨_, rfl⟩
  have zW : W.heap.size = w.heap.size + 1 := by rw [hW]; simp
  have zl : w.heap.size < W.heap.size := by omega
  have hcur : Below w.heap.size w W := by rw [hW]; exact (Below.refl _ _).alloc (Nat.le_refl _) _
  have X : Ko.Box W w.heap.size d := by rw [hW]; exact Ko.Box.new _ _ _
  clear zW
  have HV : Hid (d.a.isVar = false) := by show _ = _; unfold Ko.isVar; rw [hk]; rfl
  have HNM : Hid (∀ w' : World, Calls Tryz.prog 174 #[.agg #[.int .i64 5, .int .i64 d.a.n, .slice d.a.sA d.a.s.length d.a.sC, .int .i64 d.a.d.k, .int .i64 d.a.d.n, .string d.a.d.t, .slice d.a.d.A d.a.d.l.length d.a.d.c, .slice d.A d.l.length d.c]] w' fun e w'' => e = .returned (.bool d.a.isVar) ∧ Below w'.heap.size w' w'') := fun w' => by
    have h := implVar_u d w'
    rwa [hk] at h
  unfold Ko.val
  have Xq := X
  obtain ⟨a0, a1, a2, a3, a4, a5, a6, a7⟩ := Xq
  cases qn : (d.a.n == 0)
  · have qn2 : (d.a.n != 0) = true := by unfold bne; rw [qn]; rfl
    have hS : d.a.own = false := by simp [Ko.own, Ko.isVar, hk, qn]
    have HS := Lib.hid hS
    clear hS
    have H_hk := Lib.hid hk
    have H_qn := Lib.hid qn
    have H_qn2 := Lib.hid qn2
    clear hk qn qn2
    go_enter Tryz.func257, Tryz.ntmps257
    go_upto_region 1 with fail
    rw [← hW]
    clear hW
    have hk := H_hk.out
    have qn := H_qn.out
    have qn2 := H_qn2.out
    go_wp2_with (first
      | (go_at_call 174; with_reducible refine (HNM.out _).mono ?_; rintro e wn ⟨rfl, hbn⟩; rw [HV.out]; have X := X.below hbn zl; have hcur := hcur.trans (hbn.mono (Nat.le_of_lt zl)); have zl := Nat.lt_of_lt_of_le zl hbn.size; have Xq := X; obtain ⟨a0, a1, a2, a3, a4, a5, a6, a7⟩ := Xq)
      | (go_at_call 280; with_reducible refine (ieqz_any d B _ (hd.below (hcur.mono hB)) (Nat.le_trans hB hcur.size)).mono ?_; rintro e wn ⟨rfl, hbn⟩; rw [HDZ.out]; have X := X.below hbn zl; have hcur := hcur.trans (hbn.mono (Nat.le_of_lt zl)); have zl := Nat.lt_of_lt_of_le zl hbn.size; have Xq := X; obtain ⟨a0, a1, a2, a3, a4, a5, a6, a7⟩ := Xq))
    go_ret
    exact ⟨by first | exact ret_bool HS.out.symm | exact ret_bool (by rw [HS.out]; simp), hcur⟩
  · have qn2 : (d.a.n != 0) = false := by unfold bne; rw [qn]; rfl
    by_cases qp : (0 : Int) < (d.a.s.length : Int)
    · have qp0 : ((d.a.s.length : Int) == 0) = false := len_pos_beq qp
      cases qz : d.a.dz
      · have HDZ : Hid (D.eqB d.a.d zeroD = false) := qz
        have hS : d.a.own = false := by simp [Ko.own, Ko.isVar, hk, qn, qp, qp0, qz]
        have HS := Lib.hid hS
        clear hS
        have H_hk := Lib.hid hk
        have H_qn := Lib.hid qn
        have H_qp := Lib.hid qp
        have H_qp0 := Lib.hid qp0
        have H_qz := Lib.hid qz
        have H_qn2 := Lib.hid qn2
        clear hk qn qp qp0 qz qn2
        go_enter Tryz.func257, Tryz.ntmps257
        go_upto_region 1 with fail
        rw [← hW]
        clear hW
        have hk := H_hk.out
        have qn := H_qn.out
        have qp := H_qp.out
        have qp0 := H_qp0.out
        have qz := H_qz.out
        have qn2 := H_qn2.out
        go_wp2_with (first
          | (go_at_call 174; with_reducible refine (HNM.out _).mono ?_; rintro e wn ⟨rfl, hbn⟩; rw [HV.out]; have X := X.below hbn zl; have hcur := hcur.trans (hbn.mono (Nat.le_of_lt zl)); have zl := Nat.lt_of_lt_of_le zl hbn.size; have Xq := X; obtain ⟨a0, a1, a2, a3, a4, a5, a6, a7⟩ := Xq)
          | (go_at_call 280; with_reducible refine (ieqz_any d B _ (hd.below (hcur.mono hB)) (Nat.le_trans hB hcur.size)).mono ?_; rintro e wn ⟨rfl, hbn⟩; rw [HDZ.out]; have X := X.below hbn zl; have hcur := hcur.trans (hbn.mono (Nat.le_of_lt zl)); have zl := Nat.lt_of_lt_of_le zl hbn.size; have Xq := X; obtain ⟨a0, a1, a2, a3, a4, a5, a6, a7⟩ := Xq))
        go_ret
        exact ⟨by first | exact ret_bool HS.out.symm | exact ret_bool (by rw [HS.out]; simp), hcur⟩
      · have HDZ : Hid (D.eqB d.a.d zeroD = true) := qz
        have hS : d.a.own = true := by simp [Ko.own, Ko.isVar, hk, qn, qp, qp0, qz]
        have HS := Lib.hid hS
        clear hS
        have H_hk := Lib.hid hk
        have H_qn := Lib.hid qn
        have H_qp := Lib.hid qp
        have H_qp0 := Lib.hid qp0
        have H_qz := Lib.hid qz
        have H_qn2 := Lib.hid qn2
        clear hk qn qp qp0 qz qn2
        go_enter Tryz.func257, Tryz.ntmps257
        go_upto_region 1 with fail
        rw [← hW]
        clear hW
        have hk := H_hk.out
        have qn := H_qn.out
        have qp := H_qp.out
        have qp0 := H_qp0.out
        have qz := H_qz.out
        have qn2 := H_qn2.out
        go_wp2_with (first
          | (go_at_call 174; with_reducible refine (HNM.out _).mono ?_; rintro e wn ⟨rfl, hbn⟩; rw [HV.out]; have X := X.below hbn zl; have hcur := hcur.trans (hbn.mono (Nat.le_of_lt zl)); have zl := Nat.lt_of_lt_of_le zl hbn.size; have Xq := X; obtain ⟨a0, a1, a2, a3, a4, a5, a6, a7⟩ := Xq)
          | (go_at_call 280; with_reducible refine (ieqz_any d B _ (hd.below (hcur.mono hB)) (Nat.le_trans hB hcur.size)).mono ?_; rintro e wn ⟨rfl, hbn⟩; rw [HDZ.out]; have X := X.below hbn zl; have hcur := hcur.trans (hbn.mono (Nat.le_of_lt zl)); have zl := Nat.lt_of_lt_of_le zl hbn.size; have Xq := X; obtain ⟨a0, a1, a2, a3, a4, a5, a6, a7⟩ := Xq))
        go_ret
        exact ⟨by first | exact ret_bool HS.out.symm | exact ret_bool (by rw [HS.out]; simp), hcur⟩
    · have qp0 : ((d.a.s.length : Int) == 0) = true := len_zero_beq qp
      cases qz : d.a.dz
      · have HDZ : Hid (D.eqB d.a.d zeroD = false) := qz
        have hS : d.a.own = false := by simp [Ko.own, Ko.isVar, hk, qn, qp, qp0, qz]
        have HS := Lib.hid hS
        clear hS
        have H_hk := Lib.hid hk
        have H_qn := Lib.hid qn
        have H_qp := Lib.hid qp
        have H_qp0 := Lib.hid qp0
        have H_qz := Lib.hid qz
        have H_qn2 := Lib.hid qn2
        clear hk qn qp qp0 qz qn2
        go_enter Tryz.func257, Tryz.ntmps257
        go_upto_region 1 with fail
        rw [← hW]
        clear hW
        have hk := H_hk.out
        have qn := H_qn.out
        have qp := H_qp.out
        have qp0 := H_qp0.out
        have qz := H_qz.out
        have qn2 := H_qn2.out
        go_wp2_with (first
          | (go_at_call 174; with_reducible refine (HNM.out _).mono ?_; rintro e wn ⟨rfl, hbn⟩; rw [HV.out]; have X := X.below hbn zl; have hcur := hcur.trans (hbn.mono (Nat.le_of_lt zl)); have zl := Nat.lt_of_lt_of_le zl hbn.size; have Xq := X; obtain ⟨a0, a1, a2, a3, a4, a5, a6, a7⟩ := Xq)
          | (go_at_call 280; with_reducible refine (ieqz_any d B _ (hd.below (hcur.mono hB)) (Nat.le_trans hB hcur.size)).mono ?_; rintro e wn ⟨rfl, hbn⟩; rw [HDZ.out]; have X := X.below hbn zl; have hcur := hcur.trans (hbn.mono (Nat.le_of_lt zl)); have zl := Nat.lt_of_lt_of_le zl hbn.size; have Xq := X; obtain ⟨a0, a1, a2, a3, a4, a5, a6, a7⟩ := Xq))
        go_ret
        exact ⟨by first | exact ret_bool HS.out.symm | exact ret_bool (by rw [HS.out]; simp), hcur⟩
      · have HDZ : Hid (D.eqB d.a.d zeroD = true) := qz
        have hS : d.a.own = true := by simp [Ko.own, Ko.isVar, hk, qn, qp, qp0, qz]
        have HS := Lib.hid hS
        clear hS
        have H_hk := Lib.hid hk
        have H_qn := Lib.hid qn
        have H_qp := Lib.hid qp
        have H_qp0 := Lib.hid qp0
        have H_qz := Lib.hid qz
        have H_qn2 := Lib.hid qn2
        clear hk qn qp qp0 qz qn2
        go_enter Tryz.func257, Tryz.ntmps257
        go_upto_region 1 with fail
        rw [← hW]
        clear hW
        have hk := H_hk.out
        have qn := H_qn.out
        have qp := H_qp.out
        have qp0 := H_qp0.out
        have qz := H_qz.out
        have qn2 := H_qn2.out
        go_wp2_with (first
          | (go_at_call 174; with_reducible refine (HNM.out _).mono ?_; rintro e wn ⟨rfl, hbn⟩; rw [HV.out]; have X := X.below hbn zl; have hcur := hcur.trans (hbn.mono (Nat.le_of_lt zl)); have zl := Nat.lt_of_lt_of_le zl hbn.size; have Xq := X; obtain ⟨a0, a1, a2, a3, a4, a5, a6, a7⟩ := Xq)
          | (go_at_call 280; with_reducible refine (ieqz_any d B _ (hd.below (hcur.mono hB)) (Nat.le_trans hB hcur.size)).mono ?_; rintro e wn ⟨rfl, hbn⟩; rw [HDZ.out]; have X := X.below hbn zl; have hcur := hcur.trans (hbn.mono (Nat.le_of_lt zl)); have zl := Nat.lt_of_lt_of_le zl hbn.size; have Xq := X; obtain ⟨a0, a1, a2, a3, a4, a5, a6, a7⟩ := Xq))
        go_ret
        exact ⟨by first | exact ret_bool HS.out.symm | exact ret_bool (by rw [HS.out]; simp), hcur⟩
set_option maxRecDepth 100000 in
set_option maxHeartbeats 800000 in
theorem own9_any (d : Tr Ko) (B : Nat) (w : World) (hin : Ko.E.In w B d) (hB : B ≤ w.heap.size) (hsz : d.a.d.size ≤ 2000000) (hk : d.a.k = 9) : Calls Tryz.prog 257 #[Ko.val d] w fun e w' => e = .returned (.bool d.a.own) ∧ Below w.heap.size w w' := by
  have hd := (Ko.E_in hin).1.d
  obtain ⟨W, hW⟩ : ∃ W, W = w.alloc (.cells #[.int .i64 d.a.k, .int .i64 d.a.n, .slice d.a.sA d.a.s.length d.a.sC, .int .i64 d.a.d.k, .int .i64 d.a.d.n, .string d.a.d.t, .slice d.a.d.A d.a.d.l.length d.a.d.c, .slice d.A d.l.length d.c] 35) := ⟨_, rfl⟩
  have zW : W.heap.size = w.heap.size + 1 := by rw [hW]; simp
  have zl : w.heap.size < W.heap.size := by omega
  have hcur : Below w.heap.size w W := by rw [hW]; exact (Below.refl _ _).alloc (Nat.le_refl _) _
  have X : Ko.Box W w.heap.size d := by rw [hW]; exact Ko.Box.new _ _ _
  clear zW
  have HV : Hid (d.a.isVar = false) := by show _ = _; unfold Ko.isVar; rw [hk]; rfl
  have HNM : Hid (∀ w' : World, Calls Tryz.prog 174 #[.agg #[.int .i64 9, .int .i64 d.a.n, .slice d.a.sA d.a.s.length d.a.sC, .int .i64 d.a.d.k, .int .i64 d.a.d.n, .string d.a.d.t, .slice d.a.d.A d.a.d.l.length d.a.d.c, .slice d.A d.l.length d.c]] w' fun e w'' => e = .returned (.bool d.a.isVar) ∧ Below w'.heap.size w' w'') := fun w' => by
    have h := implVar_u d w'
    rwa [hk] at h
  unfold Ko.val
  have Xq := X
  obtain ⟨a0, a1, a2, a3, a4, a5, a6, a7⟩ := Xq
  cases qn : (d.a.n == 0)
  · have qn2 : (d.a.n != 0) = true := by unfold bne; rw [qn]; rfl
    have hS : d.a.own = false := by simp [Ko.own, Ko.isVar, hk, qn]
    have HS := Lib.hid hS
    clear hS
    have H_hk := Lib.hid hk
    have H_qn := Lib.hid qn
    have H_qn2 := Lib.hid qn2
    clear hk qn qn2
    go_enter Tryz.func257, Tryz.ntmps257
    go_upto_region 1 with fail
    rw [← hW]
    clear hW
    have hk := H_hk.out
    have qn := H_qn.out
    have qn2 := H_qn2.out
    go_wp2_with (first
      | (go_at_call 174; with_reducible refine (HNM.out _).mono ?_; rintro e wn ⟨rfl, hbn⟩; rw [HV.out]; have X := X.below hbn zl; have hcur := hcur.trans (hbn.mono (Nat.le_of_lt zl)); have zl := Nat.lt_of_lt_of_le zl hbn.size; have Xq := X; obtain ⟨a0, a1, a2, a3, a4, a5, a6, a7⟩ := Xq)
      | (go_at_call 280; with_reducible refine (ieqz_any d B _ (hd.below (hcur.mono hB)) (Nat.le_trans hB hcur.size)).mono ?_; rintro e wn ⟨rfl, hbn⟩; rw [HDZ.out]; have X := X.below hbn zl; have hcur := hcur.trans (hbn.mono (Nat.le_of_lt zl)); have zl := Nat.lt_of_lt_of_le zl hbn.size; have Xq := X; obtain ⟨a0, a1, a2, a3, a4, a5, a6, a7⟩ := Xq))
    go_ret
    exact ⟨by first | exact ret_bool HS.out.symm | exact ret_bool (by rw [HS.out]; simp), hcur⟩
  · have qn2 : (d.a.n != 0) = false := by unfold bne; rw [qn]; rfl
    by_cases qp : (0 : Int) < (d.a.s.length : Int)
    · have qp0 : ((d.a.s.length : Int) == 0) = false := len_pos_beq qp
      cases qz : d.a.dz
      · have HDZ : Hid (D.eqB d.a.d zeroD = false) := qz
        have hS : d.a.own = false := by simp [Ko.own, Ko.isVar, hk, qn, qp, qp0, qz]
        have HS := Lib.hid hS
        clear hS
        have H_hk := Lib.hid hk
        have H_qn := Lib.hid qn
        have H_qp := Lib.hid qp
        have H_qp0 := Lib.hid qp0
        have H_qz := Lib.hid qz
        have H_qn2 := Lib.hid qn2
        clear hk qn qp qp0 qz qn2
        go_enter Tryz.func257, Tryz.ntmps257
        go_upto_region 1 with fail
        rw [← hW]
        clear hW
        have hk := H_hk.out
        have qn := H_qn.out
        have qp := H_qp.out
        have qp0 := H_qp0.out
        have qz := H_qz.out
        have qn2 := H_qn2.out
        go_wp2_with (first
          | (go_at_call 174; with_reducible refine (HNM.out _).mono ?_; rintro e wn ⟨rfl, hbn⟩; rw [HV.out]; have X := X.below hbn zl; have hcur := hcur.trans (hbn.mono (Nat.le_of_lt zl)); have zl := Nat.lt_of_lt_of_le zl hbn.size; have Xq := X; obtain ⟨a0, a1, a2, a3, a4, a5, a6, a7⟩ := Xq)
          | (go_at_call 280; with_reducible refine (ieqz_any d B _ (hd.below (hcur.mono hB)) (Nat.le_trans hB hcur.size)).mono ?_; rintro e wn ⟨rfl, hbn⟩; rw [HDZ.out]; have X := X.below hbn zl; have hcur := hcur.trans (hbn.mono (Nat.le_of_lt zl)); have zl := Nat.lt_of_lt_of_le zl hbn.size; have Xq := X; obtain ⟨a0, a1, a2, a3, a4, a5, a6, a7⟩ := Xq))
        go_ret
        exact ⟨by first | exact ret_bool HS.out.symm | exact ret_bool (by rw [HS.out]; simp), hcur⟩
      · have HDZ : Hid (D.eqB d.a.d zeroD = true) := qz
        have hS : d.a.own = true := by simp [Ko.own, Ko.isVar, hk, qn, qp, qp0, qz]
        have HS := Lib.hid hS
        clear hS
        have H_hk := Lib.hid hk
        have H_qn := Lib.hid qn
        have H_qp := Lib.hid qp
        have H_qp0 := Lib.hid qp0
        have H_qz := Lib.hid qz
        have H_qn2 := Lib.hid qn2
        clear hk qn qp qp0 qz qn2
        go_enter Tryz.func257, Tryz.ntmps257
        go_upto_region 1 with fail
        rw [← hW]
        clear hW
        have hk := H_hk.out
        have qn := H_qn.out
        have qp := H_qp.out
        have qp0 := H_qp0.out
        have qz := H_qz.out
        have qn2 := H_qn2.out
        go_wp2_with (first
          | (go_at_call 174; with_reducible refine (HNM.out _).mono ?_; rintro e wn ⟨rfl, hbn⟩; rw [HV.out]; have X := X.below hbn zl; have hcur := hcur.trans (hbn.mono (Nat.le_of_lt zl)); have zl := Nat.lt_of_lt_of_le zl hbn.size; have Xq := X; obtain ⟨a0, a1, a2, a3, a4, a5, a6, a7⟩ := Xq)
          | (go_at_call 280; with_reducible refine (ieqz_any d B _ (hd.below (hcur.mono hB)) (Nat.le_trans hB hcur.size)).mono ?_; rintro e wn ⟨rfl, hbn⟩; rw [HDZ.out]; have X := X.below hbn zl; have hcur := hcur.trans (hbn.mono (Nat.le_of_lt zl)); have zl := Nat.lt_of_lt_of_le zl hbn.size; have Xq := X; obtain ⟨a0, a1, a2, a3, a4, a5, a6, a7⟩ := Xq))
        go_ret
        exact ⟨by first | exact ret_bool HS.out.symm | exact ret_bool (by rw [HS.out]; simp), hcur⟩
    · have qp0 : ((d.a.s.length : Int) == 0) = true := len_zero_beq qp
      cases qz : d.a.dz
      · have HDZ : Hid (D.eqB d.a.d zeroD = false) := qz
        have hS : d.a.own = false := by simp [Ko.own, Ko.isVar, hk, qn, qp, qp0, qz]
        have HS := Lib.hid hS
        clear hS
        have H_hk := Lib.hid hk
        have H_qn := Lib.hid qn
        have H_qp := Lib.hid qp
        have H_qp0 := Lib.hid qp0
        have H_qz := Lib.hid qz
        have H_qn2 := Lib.hid qn2
        clear hk qn qp qp0 qz qn2
        go_enter Tryz.func257, Tryz.ntmps257
        go_upto_region 1 with fail
        rw [← hW]
        clear hW
        have hk := H_hk.out
        have qn := H_qn.out
        have qp := H_qp.out
        have qp0 := H_qp0.out
        have qz := H_qz.out
        have qn2 := H_qn2.out
        go_wp2_with (first
          | (go_at_call 174; with_reducible refine (HNM.out _).mono ?_; rintro e wn ⟨rfl, hbn⟩; rw [HV.out]; have X := X.below hbn zl; have hcur := hcur.trans (hbn.mono (Nat.le_of_lt zl)); have zl := Nat.lt_of_lt_of_le zl hbn.size; have Xq := X; obtain ⟨a0, a1, a2, a3, a4, a5, a6, a7⟩ := Xq)
          | (go_at_call 280; with_reducible refine (ieqz_any d B _ (hd.below (hcur.mono hB)) (Nat.le_trans hB hcur.size)).mono ?_; rintro e wn ⟨rfl, hbn⟩; rw [HDZ.out]; have X := X.below hbn zl; have hcur := hcur.trans (hbn.mono (Nat.le_of_lt zl)); have zl := Nat.lt_of_lt_of_le zl hbn.size; have Xq := X; obtain ⟨a0, a1, a2, a3, a4, a5, a6, a7⟩ := Xq))
        go_ret
        exact ⟨by first | exact ret_bool HS.out.symm | exact ret_bool (by rw [HS.out]; simp), hcur⟩
      · have HDZ : Hid (D.eqB d.a.d zeroD = true) := qz
        have hS : d.a.own = true := by simp [Ko.own, Ko.isVar, hk, qn, qp, qp0, qz]
        have HS := Lib.hid hS
        clear hS
        have H_hk := Lib.hid hk
        have H_qn := Lib.hid qn
        have H_qp := Lib.hid qp
        have H_qp0 := Lib.hid qp0
        have H_qz := Lib.hid qz
        have H_qn2 := Lib.hid qn2
        clear hk qn qp qp0 qz qn2
        go_enter Tryz.func257, Tryz.ntmps257
        go_upto_region 1 with fail
        rw [← hW]
        clear hW
        have hk := H_hk.out
        have qn := H_qn.out
        have qp := H_qp.out
        have qp0 := H_qp0.out
        have qz := H_qz.out
        have qn2 := H_qn2.out
        go_wp2_with (first
          | (go_at_call 174; with_reducible refine (HNM.out _).mono ?_; rintro e wn ⟨rfl, hbn⟩; rw [HV.out]; have X := X.below hbn zl; have hcur := hcur.trans (hbn.mono (Nat.le_of_lt zl)); have zl := Nat.lt_of_lt_of_le zl hbn.size; have Xq := X; obtain ⟨a0, a1, a2, a3, a4, a5, a6, a7⟩ := Xq)
          | (go_at_call 280; with_reducible refine (ieqz_any d B _ (hd.below (hcur.mono hB)) (Nat.le_trans hB hcur.size)).mono ?_; rintro e wn ⟨rfl, hbn⟩; rw [HDZ.out]; have X := X.below hbn zl; have hcur := hcur.trans (hbn.mono (Nat.le_of_lt zl)); have zl := Nat.lt_of_lt_of_le zl hbn.size; have Xq := X; obtain ⟨a0, a1, a2, a3, a4, a5, a6, a7⟩ := Xq))
        go_ret
        exact ⟨by first | exact ret_bool HS.out.symm | exact ret_bool (by rw [HS.out]; simp), hcur⟩
end Go.Proofs.YtpigpncbjckbcaaGreat
namespace Go.Proofs.YtpigpncbjckbcaaGreat
open Go.RowKit
set_option maxRecDepth 100000 in
set_option maxHeartbeats 800000 in
theorem own6_any (d : Tr Ko) (B : Nat) (w : World) (hin : Ko.E.In w B d) (hB : B ≤ w.heap.size) (hsz : d.a.d.size ≤ 2000000) (hk : d.a.k = 6) : Calls Tryz.prog 257 #[Ko.val d] w fun e w' => e = .returned (.bool d.a.own) ∧ Below w.heap.size w w' := by
  have hd := (Ko.E_in hin).1.d
  obtain ⟨W, hW⟩ : ∃ W, W = w.alloc (.cells #[.int .i64 d.a.k, .int .i64 d.a.n, .slice d.a.sA d.a.s.length d.a.sC, .int .i64 d.a.d.k, .int .i64 d.a.d.n, .string d.a.d.t, .slice d.a.d.A d.a.d.l.length d.a.d.c, .slice d.A d.l.length d.c] 35) := ⟨_, rfl⟩
  have zW : W.heap.size = w.heap.size + 1 := by rw [hW]; simp
  have zl : w.heap.size < W.heap.size := by omega
  have hcur : Below w.heap.size w W := by rw [hW]; exact (Below.refl _ _).alloc (Nat.le_refl _) _
  have X : Ko.Box W w.heap.size d := by rw [hW]; exact Ko.Box.new _ _ _
  clear zW
  have HV : Hid (d.a.isVar = false) := by show _ = _; unfold Ko.isVar; rw [hk]; rfl
  have HNM : Hid (∀ w' : World, Calls Tryz.prog 174 #[.agg #[.int .i64 6, .int .i64 d.a.n, .slice d.a.sA d.a.s.length d.a.sC, .int .i64 d.a.d.k, .int .i64 d.a.d.n, .string d.a.d.t, .slice d.a.d.A d.a.d.l.length d.a.d.c, .slice d.A d.l.length d.c]] w' fun e w'' => e = .returned (.bool d.a.isVar) ∧ Below w'.heap.size w' w'') := fun w' => by
    have h := implVar_u d w'
    rwa [hk] at h
  unfold Ko.val
  have Xq := X
  obtain ⟨a0, a1, a2, a3, a4, a5, a6, a7⟩ := Xq
  cases qn : (d.a.n == 0)
  · have qn2 : (d.a.n != 0) = true := by unfold bne; rw [qn]; rfl
    have hS : d.a.own = false := by simp [Ko.own, Ko.isVar, hk, qn]
    have HS := Lib.hid hS
    clear hS
    have H_hk := Lib.hid hk
    have H_qn := Lib.hid qn
    have H_qn2 := Lib.hid qn2
    clear hk qn qn2
    go_enter Tryz.func257, Tryz.ntmps257
    go_upto_region 1 with fail
    rw [← hW]
    clear hW
    have hk := H_hk.out
    have qn := H_qn.out
    have qn2 := H_qn2.out
    go_wp2_with (first
      | (go_at_call 174; with_reducible refine (HNM.out _).mono ?_; rintro e wn ⟨rfl, hbn⟩; rw [HV.out]; have X := X.below hbn zl; have hcur := hcur.trans (hbn.mono (Nat.le_of_lt zl)); have zl := Nat.lt_of_lt_of_le zl hbn.size; have Xq := X; obtain ⟨a0, a1, a2, a3, a4, a5, a6, a7⟩ := Xq)
      | (go_at_call 280; with_reducible refine (ieqz_any d B _ (hd.below (hcur.mono hB)) (Nat.le_trans hB hcur.size)).mono ?_; rintro e wn ⟨rfl, hbn⟩; rw [HDZ.out]; have X := X.below hbn zl; have hcur := hcur.trans (hbn.mono (Nat.le_of_lt zl)); have zl := Nat.lt_of_lt_of_le zl hbn.size; have Xq := X; obtain ⟨a0, a1, a2, a3, a4, a5, a6, a7⟩ := Xq))
    go_ret
    exact ⟨by first | exact ret_bool HS.out.symm | exact ret_bool (by rw [HS.out]; simp), hcur⟩
  · have qn2 : (d.a.n != 0) = false := by unfold bne; rw [qn]; rfl
    by_cases qp : (0 : Int) < (d.a.s.length : Int)
    · have qp0 : ((d.a.s.length : Int) == 0) = false := len_pos_beq qp
      have hS : d.a.own = false := by simp [Ko.own, Ko.isVar, hk, qn, qp, qp0]
      have HS := Lib.hid hS
      clear hS
      have H_hk := Lib.hid hk
      have H_qn := Lib.hid qn
      have H_qp := Lib.hid qp
      have H_qp0 := Lib.hid qp0
      have H_qn2 := Lib.hid qn2
      clear hk qn qp qp0 qn2
      go_enter Tryz.func257, Tryz.ntmps257
      go_upto_region 1 with fail
      rw [← hW]
      clear hW
      have hk := H_hk.out
      have qn := H_qn.out
      have qp := H_qp.out
      have qp0 := H_qp0.out
      have qn2 := H_qn2.out
      go_wp2_with (first
        | (go_at_call 174; with_reducible refine (HNM.out _).mono ?_; rintro e wn ⟨rfl, hbn⟩; rw [HV.out]; have X := X.below hbn zl; have hcur := hcur.trans (hbn.mono (Nat.le_of_lt zl)); have zl := Nat.lt_of_lt_of_le zl hbn.size; have Xq := X; obtain ⟨a0, a1, a2, a3, a4, a5, a6, a7⟩ := Xq)
        | (go_at_call 280; with_reducible refine (ieqz_any d B _ (hd.below (hcur.mono hB)) (Nat.le_trans hB hcur.size)).mono ?_; rintro e wn ⟨rfl, hbn⟩; rw [HDZ.out]; have X := X.below hbn zl; have hcur := hcur.trans (hbn.mono (Nat.le_of_lt zl)); have zl := Nat.lt_of_lt_of_le zl hbn.size; have Xq := X; obtain ⟨a0, a1, a2, a3, a4, a5, a6, a7⟩ := Xq))
      go_ret
      exact ⟨by first | exact ret_bool HS.out.symm | exact ret_bool (by rw [HS.out]; simp), hcur⟩
    · have qp0 : ((d.a.s.length : Int) == 0) = true := len_zero_beq qp
      cases qz : d.a.dz
      · have HDZ : Hid (D.eqB d.a.d zeroD = false) := qz
        have hS : d.a.own = false := by simp [Ko.own, Ko.isVar, hk, qn, qp, qp0, qz]
        have HS := Lib.hid hS
        clear hS
        have H_hk := Lib.hid hk
        have H_qn := Lib.hid qn
        have H_qp := Lib.hid qp
        have H_qp0 := Lib.hid qp0
        have H_qz := Lib.hid qz
        have H_qn2 := Lib.hid qn2
        clear hk qn qp qp0 qz qn2
        go_enter Tryz.func257, Tryz.ntmps257
        go_upto_region 1 with fail
        rw [← hW]
        clear hW
        have hk := H_hk.out
        have qn := H_qn.out
        have qp := H_qp.out
        have qp0 := H_qp0.out
        have qz := H_qz.out
        have qn2 := H_qn2.out
        go_wp2_with (first
          | (go_at_call 174; with_reducible refine (HNM.out _).mono ?_; rintro e wn ⟨rfl, hbn⟩; rw [HV.out]; have X := X.below hbn zl; have hcur := hcur.trans (hbn.mono (Nat.le_of_lt zl)); have zl := Nat.lt_of_lt_of_le zl hbn.size; have Xq := X; obtain ⟨a0, a1, a2, a3, a4, a5, a6, a7⟩ := Xq)
          | (go_at_call 280; with_reducible refine (ieqz_any d B _ (hd.below (hcur.mono hB)) (Nat.le_trans hB hcur.size)).mono ?_; rintro e wn ⟨rfl, hbn⟩; rw [HDZ.out]; have X := X.below hbn zl; have hcur := hcur.trans (hbn.mono (Nat.le_of_lt zl)); have zl := Nat.lt_of_lt_of_le zl hbn.size; have Xq := X; obtain ⟨a0, a1, a2, a3, a4, a5, a6, a7⟩ := Xq))
        go_ret
        exact ⟨by first | exact ret_bool HS.out.symm | exact ret_bool (by rw [HS.out]; simp), hcur⟩
      · have HDZ : Hid (D.eqB d.a.d zeroD = true) := qz
        have hS : d.a.own = true := by simp [Ko.own, Ko.isVar, hk, qn, qp, qp0, qz]
        have HS := Lib.hid hS
        clear hS
        have H_hk := Lib.hid hk
        have H_qn := Lib.hid qn
        have H_qp := Lib.hid qp
        have H_qp0 := Lib.hid qp0
        have H_qz := Lib.hid qz
        have H_qn2 := Lib.hid qn2
        clear hk qn qp qp0 qz qn2
        go_enter Tryz.func257, Tryz.ntmps257
        go_upto_region 1 with fail
        rw [← hW]
        clear hW
        have hk := H_hk.out
        have qn := H_qn.out
        have qp := H_qp.out
        have qp0 := H_qp0.out
        have qz := H_qz.out
        have qn2 := H_qn2.out
        go_wp2_with (first
          | (go_at_call 174; with_reducible refine (HNM.out _).mono ?_; rintro e wn ⟨rfl, hbn⟩; rw [HV.out]; have X := X.below hbn zl; have hcur := hcur.trans (hbn.mono (Nat.le_of_lt zl)); have zl := Nat.lt_of_lt_of_le zl hbn.size; have Xq := X; obtain ⟨a0, a1, a2, a3, a4, a5, a6, a7⟩ := Xq)
          | (go_at_call 280; with_reducible refine (ieqz_any d B _ (hd.below (hcur.mono hB)) (Nat.le_trans hB hcur.size)).mono ?_; rintro e wn ⟨rfl, hbn⟩; rw [HDZ.out]; have X := X.below hbn zl; have hcur := hcur.trans (hbn.mono (Nat.le_of_lt zl)); have zl := Nat.lt_of_lt_of_le zl hbn.size; have Xq := X; obtain ⟨a0, a1, a2, a3, a4, a5, a6, a7⟩ := Xq))
        go_ret
        exact ⟨by first | exact ret_bool HS.out.symm | exact ret_bool (by rw [HS.out]; simp), hcur⟩
set_option maxRecDepth 100000 in
set_option maxHeartbeats 800000 in
theorem own7_any (d : Tr Ko) (B : Nat) (w : World) (hin : Ko.E.In w B d) (hB : B ≤ w.heap.size) (hsz : d.a.d.size ≤ 2000000) (hk : d.a.k = 7) : Calls Tryz.prog 257 #[Ko.val d] w fun e w' => e = .returned (.bool d.a.own) ∧ Below w.heap.size w w' := by
  have hd := (Ko.E_in hin).1.d
  obtain ⟨W, hW⟩ : ∃ W, W = w.alloc (.cells #[.int .i64 d.a.k, .int .i64 d.a.n, .slice d.a.sA d.a.s.length d.a.sC, .int .i64 d.a.d.k, .int .i64 d.a.d.n, .string d.a.d.t, .slice d.a.d.A d.a.d.l.length d.a.d.c, .slice d.A d.l.length d.c] 35) := ⟨_, rfl⟩
  have zW : W.heap.size = w.heap.size + 1 := by rw [hW]; simp
  have zl : w.heap.size < W.heap.size := by omega
  have hcur : Below w.heap.size w W := by rw [hW]; exact (Below.refl _ _).alloc (Nat.le_refl _) _
  have X : Ko.Box W w.heap.size d := by rw [hW]; exact Ko.Box.new _ _ _
  clear zW
  have HV : Hid (d.a.isVar = false) := by show _ = _; unfold Ko.isVar; rw [hk]; rfl
  have HNM : Hid (∀ w' : World, Calls Tryz.prog 174 #[.agg #[.int .i64 7, .int .i64 d.a.n, .slice d.a.sA d.a.s.length d.a.sC, .int .i64 d.a.d.k, .int .i64 d.a.d.n, .string d.a.d.t, .slice d.a.d.A d.a.d.l.length d.a.d.c, .slice d.A d.l.length d.c]] w' fun e w'' => e = .returned (.bool d.a.isVar) ∧ Below w'.heap.size w' w'') := fun w' => by
    have h := implVar_u d w'
    rwa [hk] at h
  unfold Ko.val
  have Xq := X
  obtain ⟨a0, a1, a2, a3, a4, a5, a6, a7⟩ := Xq
  cases qn : (d.a.n == 0)
  · have qn2 : (d.a.n != 0) = true := by unfold bne; rw [qn]; rfl
    have hS : d.a.own = false := by simp [Ko.own, Ko.isVar, hk, qn]
    have HS := Lib.hid hS
    clear hS
    have H_hk := Lib.hid hk
    have H_qn := Lib.hid qn
    have H_qn2 := Lib.hid qn2
    clear hk qn qn2
    go_enter Tryz.func257, Tryz.ntmps257
    go_upto_region 1 with fail
    rw [← hW]
    clear hW
    have hk := H_hk.out
    have qn := H_qn.out
    have qn2 := H_qn2.out
    go_wp2_with (first
      | (go_at_call 174; with_reducible refine (HNM.out _).mono ?_; rintro e wn ⟨rfl, hbn⟩; rw [HV.out]; have X := X.below hbn zl; have hcur := hcur.trans (hbn.mono (Nat.le_of_lt zl)); have zl := Nat.lt_of_lt_of_le zl hbn.size; have Xq := X; obtain ⟨a0, a1, a2, a3, a4, a5, a6, a7⟩ := Xq)
      | (go_at_call 280; with_reducible refine (ieqz_any d B _ (hd.below (hcur.mono hB)) (Nat.le_trans hB hcur.size)).mono ?_; rintro e wn ⟨rfl, hbn⟩; rw [HDZ.out]; have X := X.below hbn zl; have hcur := hcur.trans (hbn.mono (Nat.le_of_lt zl)); have zl := Nat.lt_of_lt_of_le zl hbn.size; have Xq := X; obtain ⟨a0, a1, a2, a3, a4, a5, a6, a7⟩ := Xq))
    go_ret
    exact ⟨by first | exact ret_bool HS.out.symm | exact ret_bool (by rw [HS.out]; simp), hcur⟩
  · have qn2 : (d.a.n != 0) = false := by unfold bne; rw [qn]; rfl
    by_cases qp : (0 : Int) < (d.a.s.length : Int)
    · have qp0 : ((d.a.s.length : Int) == 0) = false := len_pos_beq qp
      have hS : d.a.own = false := by simp [Ko.own, Ko.isVar, hk, qn, qp, qp0]
      have HS := Lib.hid hS
      clear hS
      have H_hk := Lib.hid hk
      have H_qn := Lib.hid qn
      have H_qp := Lib.hid qp
      have H_qp0 := Lib.hid qp0
      have H_qn2 := Lib.hid qn2
      clear hk qn qp qp0 qn2
      go_enter Tryz.func257, Tryz.ntmps257
      go_upto_region 1 with fail
      rw [← hW]
      clear hW
      have hk := H_hk.out
      have qn := H_qn.out
      have qp := H_qp.out
      have qp0 := H_qp0.out
      have qn2 := H_qn2.out
      go_wp2_with (first
        | (go_at_call 174; with_reducible refine (HNM.out _).mono ?_; rintro e wn ⟨rfl, hbn⟩; rw [HV.out]; have X := X.below hbn zl; have hcur := hcur.trans (hbn.mono (Nat.le_of_lt zl)); have zl := Nat.lt_of_lt_of_le zl hbn.size; have Xq := X; obtain ⟨a0, a1, a2, a3, a4, a5, a6, a7⟩ := Xq)
        | (go_at_call 280; with_reducible refine (ieqz_any d B _ (hd.below (hcur.mono hB)) (Nat.le_trans hB hcur.size)).mono ?_; rintro e wn ⟨rfl, hbn⟩; rw [HDZ.out]; have X := X.below hbn zl; have hcur := hcur.trans (hbn.mono (Nat.le_of_lt zl)); have zl := Nat.lt_of_lt_of_le zl hbn.size; have Xq := X; obtain ⟨a0, a1, a2, a3, a4, a5, a6, a7⟩ := Xq))
      go_ret
      exact ⟨by first | exact ret_bool HS.out.symm | exact ret_bool (by rw [HS.out]; simp), hcur⟩
    · have qp0 : ((d.a.s.length : Int) == 0) = true := len_zero_beq qp
      cases qz : d.a.dz
      · have HDZ : Hid (D.eqB d.a.d zeroD = false) := qz
        have hS : d.a.own = false := by simp [Ko.own, Ko.isVar, hk, qn, qp, qp0, qz]
        have HS := Lib.hid hS
        clear hS
        have H_hk := Lib.hid hk
        have H_qn := Lib.hid qn
        have H_qp := Lib.hid qp
        have H_qp0 := Lib.hid qp0
        have H_qz := Lib.hid qz
        have H_qn2 := Lib.hid qn2
        clear hk qn qp qp0 qz qn2
        go_enter Tryz.func257, Tryz.ntmps257
        go_upto_region 1 with fail
        rw [← hW]
        clear hW
        have hk := H_hk.out
        have qn := H_qn.out
        have qp := H_qp.out
        have qp0 := H_qp0.out
        have qz := H_qz.out
        have qn2 := H_qn2.out
        go_wp2_with (first
          | (go_at_call 174; with_reducible refine (HNM.out _).mono ?_; rintro e wn ⟨rfl, hbn⟩; rw [HV.out]; have X := X.below hbn zl; have hcur := hcur.trans (hbn.mono (Nat.le_of_lt zl)); have zl := Nat.lt_of_lt_of_le zl hbn.size; have Xq := X; obtain ⟨a0, a1, a2, a3, a4, a5, a6, a7⟩ := Xq)
          | (go_at_call 280; with_reducible refine (ieqz_any d B _ (hd.below (hcur.mono hB)) (Nat.le_trans hB hcur.size)).mono ?_; rintro e wn ⟨rfl, hbn⟩; rw [HDZ.out]; have X := X.below hbn zl; have hcur := hcur.trans (hbn.mono (Nat.le_of_lt zl)); have zl := Nat.lt_of_lt_of_le zl hbn.size; have Xq := X; obtain ⟨a0, a1, a2, a3, a4, a5, a6, a7⟩ := Xq))
        go_ret
        exact ⟨by first | exact ret_bool HS.out.symm | exact ret_bool (by rw [HS.out]; simp), hcur⟩
      · have HDZ : Hid (D.eqB d.a.d zeroD = true) := qz
        have hS : d.a.own = true := by simp [Ko.own, Ko.isVar, hk, qn, qp, qp0, qz]
        have HS := Lib.hid hS
        clear hS
        have H_hk := Lib.hid hk
        have H_qn := Lib.hid qn
        have H_qp := Lib.hid qp
        have H_qp0 := Lib.hid qp0
        have H_qz := Lib.hid qz
        have H_qn2 := Lib.hid qn2
        clear hk qn qp qp0 qz qn2
        go_enter Tryz.func257, Tryz.ntmps257
        go_upto_region 1 with fail
        rw [← hW]
        clear hW
        have hk := H_hk.out
        have qn := H_qn.out
        have qp := H_qp.out
        have qp0 := H_qp0.out
        have qz := H_qz.out
        have qn2 := H_qn2.out
        go_wp2_with (first
          | (go_at_call 174; with_reducible refine (HNM.out _).mono ?_; rintro e wn ⟨rfl, hbn⟩; rw [HV.out]; have X := X.below hbn zl; have hcur := hcur.trans (hbn.mono (Nat.le_of_lt zl)); have zl := Nat.lt_of_lt_of_le zl hbn.size; have Xq := X; obtain ⟨a0, a1, a2, a3, a4, a5, a6, a7⟩ := Xq)
          | (go_at_call 280; with_reducible refine (ieqz_any d B _ (hd.below (hcur.mono hB)) (Nat.le_trans hB hcur.size)).mono ?_; rintro e wn ⟨rfl, hbn⟩; rw [HDZ.out]; have X := X.below hbn zl; have hcur := hcur.trans (hbn.mono (Nat.le_of_lt zl)); have zl := Nat.lt_of_lt_of_le zl hbn.size; have Xq := X; obtain ⟨a0, a1, a2, a3, a4, a5, a6, a7⟩ := Xq))
        go_ret
        exact ⟨by first | exact ret_bool HS.out.symm | exact ret_bool (by rw [HS.out]; simp), hcur⟩
set_option maxRecDepth 100000 in
set_option maxHeartbeats 800000 in
theorem own8_any (d : Tr Ko) (B : Nat) (w : World) (hin : Ko.E.In w B d) (hB : B ≤ w.heap.size) (hsz : d.a.d.size ≤ 2000000) (hk : d.a.k = 8) : Calls Tryz.prog 257 #[Ko.val d] w fun e w' => e = .returned (.bool d.a.own) ∧ Below w.heap.size w w' := by
  have hd := (Ko.E_in hin).1.d
  obtain ⟨W, hW⟩ : ∃ W, W = w.alloc (.cells #[.int .i64 d.a.k, .int .i64 d.a.n, .slice d.a.sA d.a.s.length d.a.sC, .int .i64 d.a.d.k, .int .i64 d.a.d.n, .string d.a.d.t, .slice d.a.d.A d.a.d.l.length d.a.d.c, .slice d.A d.l.length d.c] 35) := ⟨_, rfl⟩
  have zW : W.heap.size = w.heap.size + 1 := by rw [hW]; simp
  have zl : w.heap.size < W.heap.size := by omega
  have hcur : Below w.heap.size w W := by rw [hW]; exact (Below.refl _ _).alloc (Nat.le_refl _) _
  have X : Ko.Box W w.heap.size d := by rw [hW]; exact Ko.Box.new _ _ _
  clear zW
  have HV : Hid (d.a.isVar = false) := by show _ = _; unfold Ko.isVar; rw [hk]; rfl
  have HNM : Hid (∀ w' : World, Calls Tryz.prog 174 #[.agg #[.int .i64 8, .int .i64 d.a.n, .slice d.a.sA d.a.s.length d.a.sC, .int .i64 d.a.d.k, .int .i64 d.a.d.n, .string d.a.d.t, .slice d.a.d.A d.a.d.l.length d.a.d.c, .slice d.A d.l.length d.c]] w' fun e w'' => e = .returned (.bool d.a.isVar) ∧ Below w'.heap.size w' w'') := fun w' => by
    have h := implVar_u d w'
    rwa [hk] at h
  unfold Ko.val
  have Xq := X
  obtain ⟨a0, a1, a2, a3, a4, a5, a6, a7⟩ := Xq
  cases qn : (d.a.n == 0)
  · have qn2 : (d.a.n != 0) = true := by unfold bne; rw [qn]; rfl
    have hS : d.a.own = false := by simp [Ko.own, Ko.isVar, hk, qn]
    have HS := Lib.hid hS
    clear hS
    have H_hk := Lib.hid hk
    have H_qn := Lib.hid qn
    have H_qn2 := Lib.hid qn2
    clear hk qn qn2
    go_enter Tryz.func257, Tryz.ntmps257
    go_upto_region 1 with fail
    rw [← hW]
    clear hW
    have hk := H_hk.out
    have qn := H_qn.out
    have qn2 := H_qn2.out
    go_wp2_with (first
      | (go_at_call 174; with_reducible refine (HNM.out _).mono ?_; rintro e wn ⟨rfl, hbn⟩; rw [HV.out]; have X := X.below hbn zl; have hcur := hcur.trans (hbn.mono (Nat.le_of_lt zl)); have zl := Nat.lt_of_lt_of_le zl hbn.size; have Xq := X; obtain ⟨a0, a1, a2, a3, a4, a5, a6, a7⟩ := Xq)
      | (go_at_call 280; with_reducible refine (ieqz_any d B _ (hd.below (hcur.mono hB)) (Nat.le_trans hB hcur.size)).mono ?_; rintro e wn ⟨rfl, hbn⟩; rw [HDZ.out]; have X := X.below hbn zl; have hcur := hcur.trans (hbn.mono (Nat.le_of_lt zl)); have zl := Nat.lt_of_lt_of_le zl hbn.size; have Xq := X; obtain ⟨a0, a1, a2, a3, a4, a5, a6, a7⟩ := Xq))
    go_ret
    exact ⟨by first | exact ret_bool HS.out.symm | exact ret_bool (by rw [HS.out]; simp), hcur⟩
  · have qn2 : (d.a.n != 0) = false := by unfold bne; rw [qn]; rfl
    by_cases qp : (0 : Int) < (d.a.s.length : Int)
    · have qp0 : ((d.a.s.length : Int) == 0) = false := len_pos_beq qp
      have hS : d.a.own = false := by simp [Ko.own, Ko.isVar, hk, qn, qp, qp0]
      have HS := Lib.hid hS
      clear hS
      have H_hk := Lib.hid hk
      have H_qn := Lib.hid qn
      have H_qp := Lib.hid qp
      have H_qp0 := Lib.hid qp0
      have H_qn2 := Lib.hid qn2
      clear hk qn qp qp0 qn2
      go_enter Tryz.func257, Tryz.ntmps257
      go_upto_region 1 with fail
      rw [← hW]
      clear hW
      have hk := H_hk.out
      have qn := H_qn.out
      have qp := H_qp.out
      have qp0 := H_qp0.out
      have qn2 := H_qn2.out
      go_wp2_with (first
        | (go_at_call 174; with_reducible refine (HNM.out _).mono ?_; rintro e wn ⟨rfl, hbn⟩; rw [HV.out]; have X := X.below hbn zl; have hcur := hcur.trans (hbn.mono (Nat.le_of_lt zl)); have zl := Nat.lt_of_lt_of_le zl hbn.size; have Xq := X; obtain ⟨a0, a1, a2, a3, a4, a5, a6, a7⟩ := Xq)
        | (go_at_call 280; with_reducible refine (ieqz_any d B _ (hd.below (hcur.mono hB)) (Nat.le_trans hB hcur.size)).mono ?_; rintro e wn ⟨rfl, hbn⟩; rw [HDZ.out]; have X := X.below hbn zl; have hcur := hcur.trans (hbn.mono (Nat.le_of_lt zl)); have zl := Nat.lt_of_lt_of_le zl hbn.size; have Xq := X; obtain ⟨a0, a1, a2, a3, a4, a5, a6, a7⟩ := Xq))
      go_ret
      exact ⟨by first | exact ret_bool HS.out.symm | exact ret_bool (by rw [HS.out]; simp), hcur⟩
    · have qp0 : ((d.a.s.length : Int) == 0) = true := len_zero_beq qp
      cases qz : d.a.dz
      · have HDZ : Hid (D.eqB d.a.d zeroD = false) := qz
        have hS : d.a.own = false := by simp [Ko.own, Ko.isVar, hk, qn, qp, qp0, qz]
        have HS := Lib.hid hS
        clear hS
        have H_hk := Lib.hid hk
        have H_qn := Lib.hid qn
        have H_qp := Lib.hid qp
        have H_qp0 := Lib.hid qp0
        have H_qz := Lib.hid qz
        have H_qn2 := Lib.hid qn2
        clear hk qn qp qp0 qz qn2
        go_enter Tryz.func257, Tryz.ntmps257
        go_upto_region 1 with fail
        rw [← hW]
        clear hW
        have hk := H_hk.out
        have qn := H_qn.out
        have qp := H_qp.out
        have qp0 := H_qp0.out
        have qz := H_qz.out
        have qn2 := H_qn2.out
        go_wp2_with (first
          | (go_at_call 174; with_reducible refine (HNM.out _).mono ?_; rintro e wn ⟨rfl, hbn⟩; rw [HV.out]; have X := X.below hbn zl; have hcur := hcur.trans (hbn.mono (Nat.le_of_lt zl)); have zl := Nat.lt_of_lt_of_le zl hbn.size; have Xq := X; obtain ⟨a0, a1, a2, a3, a4, a5, a6, a7⟩ := Xq)
          | (go_at_call 280; with_reducible refine (ieqz_any d B _ (hd.below (hcur.mono hB)) (Nat.le_trans hB hcur.size)).mono ?_; rintro e wn ⟨rfl, hbn⟩; rw [HDZ.out]; have X := X.below hbn zl; have hcur := hcur.trans (hbn.mono (Nat.le_of_lt zl)); have zl := Nat.lt_of_lt_of_le zl hbn.size; have Xq := X; obtain ⟨a0, a1, a2, a3, a4, a5, a6, a7⟩ := Xq))
        go_ret
        exact ⟨by first | exact ret_bool HS.out.symm | exact ret_bool (by rw [HS.out]; simp), hcur⟩
      · have HDZ : Hid (D.eqB d.a.d zeroD = true) := qz
        have hS : d.a.own = true := by simp [Ko.own, Ko.isVar, hk, qn, qp, qp0, qz]
        have HS := Lib.hid hS
        clear hS
        have H_hk := Lib.hid hk
        have H_qn := Lib.hid qn
        have H_qp := Lib.hid qp
        have H_qp0 := Lib.hid qp0
        have H_qz := Lib.hid qz
        have H_qn2 := Lib.hid qn2
        clear hk qn qp qp0 qz qn2
        go_enter Tryz.func257, Tryz.ntmps257
        go_upto_region 1 with fail
        rw [← hW]
        clear hW
        have hk := H_hk.out
        have qn := H_qn.out
        have qp := H_qp.out
        have qp0 := H_qp0.out
        have qz := H_qz.out
        have qn2 := H_qn2.out
        go_wp2_with (first
          | (go_at_call 174; with_reducible refine (HNM.out _).mono ?_; rintro e wn ⟨rfl, hbn⟩; rw [HV.out]; have X := X.below hbn zl; have hcur := hcur.trans (hbn.mono (Nat.le_of_lt zl)); have zl := Nat.lt_of_lt_of_le zl hbn.size; have Xq := X; obtain ⟨a0, a1, a2, a3, a4, a5, a6, a7⟩ := Xq)
          | (go_at_call 280; with_reducible refine (ieqz_any d B _ (hd.below (hcur.mono hB)) (Nat.le_trans hB hcur.size)).mono ?_; rintro e wn ⟨rfl, hbn⟩; rw [HDZ.out]; have X := X.below hbn zl; have hcur := hcur.trans (hbn.mono (Nat.le_of_lt zl)); have zl := Nat.lt_of_lt_of_le zl hbn.size; have Xq := X; obtain ⟨a0, a1, a2, a3, a4, a5, a6, a7⟩ := Xq))
        go_ret
        exact ⟨by first | exact ret_bool HS.out.symm | exact ret_bool (by rw [HS.out]; simp), hcur⟩
set_option maxRecDepth 100000 in
set_option maxHeartbeats 800000 in
theorem own10_any (d : Tr Ko) (B : Nat) (w : World) (hin : Ko.E.In w B d) (hB : B ≤ w.heap.size) (hsz : d.a.d.size ≤ 2000000) (hk : d.a.k = 10) : Calls Tryz.prog 257 #[Ko.val d] w fun e w' => e = .returned (.bool d.a.own) ∧ Below w.heap.size w w' := by
  have hd := (Ko.E_in hin).1.d
  obtain ⟨W, hW⟩ : ∃ W, W = w.alloc (.cells #[.int .i64 d.a.k, .int .i64 d.a.n, .slice d.a.sA d.a.s.length d.a.sC, .int .i64 d.a.d.k, .int .i64 d.a.d.n, .string d.a.d.t, .slice d.a.d.A d.a.d.l.length d.a.d.c, .slice d.A d.l.length d.c] 35) := ⟨_, rfl⟩
  have zW : W.heap.size = w.heap.size + 1 := by rw [hW]; simp
  have zl : w.heap.size < W.heap.size := by omega
  have hcur : Below w.heap.size w W := by rw [hW]; exact (Below.refl _ _).alloc (Nat.le_refl _) _
  have X : Ko.Box W w.heap.size d := by rw [hW]; exact Ko.Box.new _ _ _
  clear zW
  have HV : Hid (d.a.isVar = false) := by show _ = _; unfold Ko.isVar; rw [hk]; rfl
  have HNM : Hid (∀ w' : World, Calls Tryz.prog 174 #[.agg #[.int .i64 10, .int .i64 d.a.n, .slice d.a.sA d.a.s.length d.a.sC, .int .i64 d.a.d.k, .int .i64 d.a.d.n, .string d.a.d.t, .slice d.a.d.A d.a.d.l.length d.a.d.c, .slice d.A d.l.length d.c]] w' fun e w'' => e = .returned (.bool d.a.isVar) ∧ Below w'.heap.size w' w'') := fun w' => by
    have h := implVar_u d w'
    rwa [hk] at h
  unfold Ko.val
  have Xq := X
  obtain ⟨a0, a1, a2, a3, a4, a5, a6, a7⟩ := Xq
  cases qn : (d.a.n == 0)
  · have qn2 : (d.a.n != 0) = true := by unfold bne; rw [qn]; rfl
    have hS : d.a.own = false := by simp [Ko.own, Ko.isVar, hk, qn]
    have HS := Lib.hid hS
    clear hS
    have H_hk := Lib.hid hk
    have H_qn := Lib.hid qn
    have H_qn2 := Lib.hid qn2
    clear hk qn qn2
    go_enter Tryz.func257, Tryz.ntmps257
    go_upto_region 1 with fail
    rw [← hW]
    clear hW
    have hk := H_hk.out
    have qn := H_qn.out
    have qn2 := H_qn2.out
    go_wp2_with (first
      | (go_at_call 174; with_reducible refine (HNM.out _).mono ?_; rintro e wn ⟨rfl, hbn⟩; rw [HV.out]; have X := X.below hbn zl; have hcur := hcur.trans (hbn.mono (Nat.le_of_lt zl)); have zl := Nat.lt_of_lt_of_le zl hbn.size; have Xq := X; obtain ⟨a0, a1, a2, a3, a4, a5, a6, a7⟩ := Xq)
      | (go_at_call 280; with_reducible refine (ieqz_any d B _ (hd.below (hcur.mono hB)) (Nat.le_trans hB hcur.size)).mono ?_; rintro e wn ⟨rfl, hbn⟩; rw [HDZ.out]; have X := X.below hbn zl; have hcur := hcur.trans (hbn.mono (Nat.le_of_lt zl)); have zl := Nat.lt_of_lt_of_le zl hbn.size; have Xq := X; obtain ⟨a0, a1, a2, a3, a4, a5, a6, a7⟩ := Xq))
    go_ret
    exact ⟨by first | exact ret_bool HS.out.symm | exact ret_bool (by rw [HS.out]; simp), hcur⟩
  · have qn2 : (d.a.n != 0) = false := by unfold bne; rw [qn]; rfl
    by_cases qp : (0 : Int) < (d.a.s.length : Int)
    · have qp0 : ((d.a.s.length : Int) == 0) = false := len_pos_beq qp
      have hS : d.a.own = false := by simp [Ko.own, Ko.isVar, hk, qn, qp, qp0]
      have HS := Lib.hid hS
      clear hS
      have H_hk := Lib.hid hk
      have H_qn := Lib.hid qn
      have H_qp := Lib.hid qp
      have H_qp0 := Lib.hid qp0
      have H_qn2 := Lib.hid qn2
      clear hk qn qp qp0 qn2
      go_enter Tryz.func257, Tryz.ntmps257
      go_upto_region 1 with fail
      rw [← hW]
      clear hW
      have hk := H_hk.out
      have qn := H_qn.out
      have qp := H_qp.out
      have qp0 := H_qp0.out
      have qn2 := H_qn2.out
      go_wp2_with (first
        | (go_at_call 174; with_reducible refine (HNM.out _).mono ?_; rintro e wn ⟨rfl, hbn⟩; rw [HV.out]; have X := X.below hbn zl; have hcur := hcur.trans (hbn.mono (Nat.le_of_lt zl)); have zl := Nat.lt_of_lt_of_le zl hbn.size; have Xq := X; obtain ⟨a0, a1, a2, a3, a4, a5, a6, a7⟩ := Xq)
        | (go_at_call 280; with_reducible refine (ieqz_any d B _ (hd.below (hcur.mono hB)) (Nat.le_trans hB hcur.size)).mono ?_; rintro e wn ⟨rfl, hbn⟩; rw [HDZ.out]; have X := X.below hbn zl; have hcur := hcur.trans (hbn.mono (Nat.le_of_lt zl)); have zl := Nat.lt_of_lt_of_le zl hbn.size; have Xq := X; obtain ⟨a0, a1, a2, a3, a4, a5, a6, a7⟩ := Xq))
      go_ret
      exact ⟨by first | exact ret_bool HS.out.symm | exact ret_bool (by rw [HS.out]; simp), hcur⟩
    · have qp0 : ((d.a.s.length : Int) == 0) = true := len_zero_beq qp
      cases qz : d.a.dz
      · have HDZ : Hid (D.eqB d.a.d zeroD = false) := qz
        have hS : d.a.own = false := by simp [Ko.own, Ko.isVar, hk, qn, qp, qp0, qz]
        have HS := Lib.hid hS
        clear hS
        have H_hk := Lib.hid hk
        have H_qn := Lib.hid qn
        have H_qp := Lib.hid qp
        have H_qp0 := Lib.hid qp0
        have H_qz := Lib.hid qz
        have H_qn2 := Lib.hid qn2
        clear hk qn qp qp0 qz qn2
        go_enter Tryz.func257, Tryz.ntmps257
        go_upto_region 1 with fail
        rw [← hW]
        clear hW
        have hk := H_hk.out
        have qn := H_qn.out
        have qp := H_qp.out
        have qp0 := H_qp0.out
        have qz := H_qz.out
        have qn2 := H_qn2.out
        go_wp2_with (first
          | (go_at_call 174; with_reducible refine (HNM.out _).mono ?_; rintro e wn ⟨rfl, hbn⟩; rw [HV.out]; have X := X.below hbn zl; have hcur := hcur.trans (hbn.mono (Nat.le_of_lt zl)); have zl := Nat.lt_of_lt_of_le zl hbn.size; have Xq := X; obtain ⟨a0, a1, a2, a3, a4, a5, a6, a7⟩ := Xq)
          | (go_at_call 280; with_reducible refine (ieqz_any d B _ (hd.below (hcur.mono hB)) (Nat.le_trans hB hcur.size)).mono ?_; rintro e wn ⟨rfl, hbn⟩; rw [HDZ.out]; have X := X.below hbn zl; have hcur := hcur.trans (hbn.mono (Nat.le_of_lt zl)); have zl := Nat.lt_of_lt_of_le zl hbn.size; have Xq := X; obtain ⟨a0, a1, a2, a3, a4, a5, a6, a7⟩ := Xq))
        go_ret
        exact ⟨by first | exact ret_bool HS.out.symm | exact ret_bool (by rw [HS.out]; simp), hcur⟩
      · have HDZ : Hid (D.eqB d.a.d zeroD = true) := qz
        have hS : d.a.own = true := by simp [Ko.own, Ko.isVar, hk, qn, qp, qp0, qz]
        have HS := Lib.hid hS
        clear hS
        have H_hk := Lib.hid hk
        have H_qn := Lib.hid qn
        have H_qp := Lib.hid qp
        have H_qp0 := Lib.hid qp0
        have H_qz := Lib.hid qz
        have H_qn2 := Lib.hid qn2
        clear hk qn qp qp0 qz qn2
        go_enter Tryz.func257, Tryz.ntmps257
        go_upto_region 1 with fail
        rw [← hW]
        clear hW
        have hk := H_hk.out
        have qn := H_qn.out
        have qp := H_qp.out
        have qp0 := H_qp0.out
        have qz := H_qz.out
        have qn2 := H_qn2.out
        go_wp2_with (first
          | (go_at_call 174; with_reducible refine (HNM.out _).mono ?_; rintro e wn ⟨rfl, hbn⟩; rw [HV.out]; have X := X.below hbn zl; have hcur := hcur.trans (hbn.mono (Nat.le_of_lt zl)); have zl := Nat.lt_of_lt_of_le zl hbn.size; have Xq := X; obtain ⟨a0, a1, a2, a3, a4, a5, a6, a7⟩ := Xq)
          | (go_at_call 280; with_reducible refine (ieqz_any d B _ (hd.below (hcur.mono hB)) (Nat.le_trans hB hcur.size)).mono ?_; rintro e wn ⟨rfl, hbn⟩; rw [HDZ.out]; have X := X.below hbn zl; have hcur := hcur.trans (hbn.mono (Nat.le_of_lt zl)); have zl := Nat.lt_of_lt_of_le zl hbn.size; have Xq := X; obtain ⟨a0, a1, a2, a3, a4, a5, a6, a7⟩ := Xq))
        go_ret
        exact ⟨by first | exact ret_bool HS.out.symm | exact ret_bool (by rw [HS.out]; simp), hcur⟩
set_option maxRecDepth 100000 in
set_option maxHeartbeats 800000 in
theorem own11_any (d : Tr Ko) (B : Nat) (w : World) (hin : Ko.E.In w B d) (hB : B ≤ w.heap.size) (hsz : d.a.d.size ≤ 2000000) (hk : d.a.k = 11) : Calls Tryz.prog 257 #[Ko.val d] w fun e w' => e = .returned (.bool d.a.own) ∧ Below w.heap.size w w' := by
  have hd := (Ko.E_in hin).1.d
  obtain ⟨W, hW⟩ : ∃ W, W = w.alloc (.cells #[.int .i64 d.a.k, .int .i64 d.a.n, .slice d.a.sA d.a.s.length d.a.sC, .int .i64 d.a.d.k, .int .i64 d.a.d.n, .string d.a.d.t, .slice d.a.d.A d.a.d.l.length d.a.d.c, .slice d.A d.l.length d.c] 35) := ⟨_, rfl⟩
  have zW : W.heap.size = w.heap.size + 1 := by rw [hW]; simp
  have zl : w.heap.size < W.heap.size := by omega
  have hcur : Below w.heap.size w W := by rw [hW]; exact (Below.refl _ _).alloc (Nat.le_refl _) _
  have X : Ko.Box W w.heap.size d := by rw [hW]; exact Ko.Box.new _ _ _
  clear zW
  have HV : Hid (d.a.isVar = false) := by show _ = _; unfold Ko.isVar; rw [hk]; rfl
  have HNM : Hid (∀ w' : World, Calls Tryz.prog 174 #[.agg #[.int .i64 11, .int .i64 d.a.n, .slice d.a.sA d.a.s.length d.a.sC, .int .i64 d.a.d.k, .int .i64 d.a.d.n, .string d.a.d.t, .slice d.a.d.A d.a.d.l.length d.a.d.c, .slice d.A d.l.length d.c]] w' fun e w'' => e = .returned (.bool d.a.isVar) ∧ Below w'.heap.size w' w'') := fun w' => by
    have h := implVar_u d w'
    rwa [hk] at h
  unfold Ko.val
  have Xq := X
  obtain ⟨a0, a1, a2, a3, a4, a5, a6, a7⟩ := Xq
  cases qn : (d.a.n == 0)
  · have qn2 : (d.a.n != 0) = true := by unfold bne; rw [qn]; rfl
    have hS : d.a.own = false := by simp [Ko.own, Ko.isVar, hk, qn]
    have HS := Lib.hid hS
    clear hS
    have H_hk := Lib.hid hk
    have H_qn := Lib.hid qn
    have H_qn2 := Lib.hid qn2
    clear hk qn qn2
    go_enter Tryz.func257, Tryz.ntmps257
    go_upto_region 1 with fail
    rw [← hW]
    clear hW
    have hk := H_hk.out
    have qn := H_qn.out
    have qn2 := H_qn2.out
    go_wp2_with (first
      | (go_at_call 174; with_reducible refine (HNM.out _).mono ?_; rintro e wn ⟨rfl, hbn⟩; rw [HV.out]; have X := X.below hbn zl; have hcur := hcur.trans (hbn.mono (Nat.le_of_lt zl)); have zl := Nat.lt_of_lt_of_le zl hbn.size; have Xq := X; obtain ⟨a0, a1, a2, a3, a4, a5, a6, a7⟩ := Xq)
      | (go_at_call 280; with_reducible refine (ieqz_any d B _ (hd.below (hcur.mono hB)) (Nat.le_trans hB hcur.size)).mono ?_; rintro e wn ⟨rfl, hbn⟩; rw [HDZ.out]; have X := X.below hbn zl; have hcur := hcur.trans (hbn.mono (Nat.le_of_lt zl)); have zl := Nat.lt_of_lt_of_le zl hbn.size; have Xq := X; obtain ⟨a0, a1, a2, a3, a4, a5, a6, a7⟩ := Xq))
    go_ret
    exact ⟨by first | exact ret_bool HS.out.symm | exact ret_bool (by rw [HS.out]; simp), hcur⟩
  · have qn2 : (d.a.n != 0) = false := by unfold bne; rw [qn]; rfl
    by_cases qp : (0 : Int) < (d.a.s.length : Int)
    · have qp0 : ((d.a.s.length : Int) == 0) = false := len_pos_beq qp
      cases qz : d.a.dz
      · have HDZ : Hid (D.eqB d.a.d zeroD = false) := qz
        have hS : d.a.own = false := by simp [Ko.own, Ko.isVar, hk, qn, qp, qp0, qz]
        have HS := Lib.hid hS
        clear hS
        have H_hk := Lib.hid hk
        have H_qn := Lib.hid qn
        have H_qp := Lib.hid qp
        have H_qp0 := Lib.hid qp0
        have H_qz := Lib.hid qz
        have H_qn2 := Lib.hid qn2
        clear hk qn qp qp0 qz qn2
        go_enter Tryz.func257, Tryz.ntmps257
        go_upto_region 1 with fail
        rw [← hW]
        clear hW
        have hk := H_hk.out
        have qn := H_qn.out
        have qp := H_qp.out
        have qp0 := H_qp0.out
        have qz := H_qz.out
        have qn2 := H_qn2.out
        go_wp2_with (first
          | (go_at_call 174; with_reducible refine (HNM.out _).mono ?_; rintro e wn ⟨rfl, hbn⟩; rw [HV.out]; have X := X.below hbn zl; have hcur := hcur.trans (hbn.mono (Nat.le_of_lt zl)); have zl := Nat.lt_of_lt_of_le zl hbn.size; have Xq := X; obtain ⟨a0, a1, a2, a3, a4, a5, a6, a7⟩ := Xq)
          | (go_at_call 280; with_reducible refine (ieqz_any d B _ (hd.below (hcur.mono hB)) (Nat.le_trans hB hcur.size)).mono ?_; rintro e wn ⟨rfl, hbn⟩; rw [HDZ.out]; have X := X.below hbn zl; have hcur := hcur.trans (hbn.mono (Nat.le_of_lt zl)); have zl := Nat.lt_of_lt_of_le zl hbn.size; have Xq := X; obtain ⟨a0, a1, a2, a3, a4, a5, a6, a7⟩ := Xq))
        go_ret
        exact ⟨by first | exact ret_bool HS.out.symm | exact ret_bool (by rw [HS.out]; simp), hcur⟩
      · have HDZ : Hid (D.eqB d.a.d zeroD = true) := qz
        have hS : d.a.own = true := by simp [Ko.own, Ko.isVar, hk, qn, qp, qp0, qz]
        have HS := Lib.hid hS
        clear hS
        have H_hk := Lib.hid hk
        have H_qn := Lib.hid qn
        have H_qp := Lib.hid qp
        have H_qp0 := Lib.hid qp0
        have H_qz := Lib.hid qz
        have H_qn2 := Lib.hid qn2
        clear hk qn qp qp0 qz qn2
        go_enter Tryz.func257, Tryz.ntmps257
        go_upto_region 1 with fail
        rw [← hW]
        clear hW
        have hk := H_hk.out
        have qn := H_qn.out
        have qp := H_qp.out
        have qp0 := H_qp0.out
        have qz := H_qz.out
        have qn2 := H_qn2.out
        go_wp2_with (first
          | (go_at_call 174; with_reducible refine (HNM.out _).mono ?_; rintro e wn ⟨rfl, hbn⟩; rw [HV.out]; have X := X.below hbn zl; have hcur := hcur.trans (hbn.mono (Nat.le_of_lt zl)); have zl := Nat.lt_of_lt_of_le zl hbn.size; have Xq := X; obtain ⟨a0, a1, a2, a3, a4, a5, a6, a7⟩ := Xq)
          | (go_at_call 280; with_reducible refine (ieqz_any d B _ (hd.below (hcur.mono hB)) (Nat.le_trans hB hcur.size)).mono ?_; rintro e wn ⟨rfl, hbn⟩; rw [HDZ.out]; have X := X.below hbn zl; have hcur := hcur.trans (hbn.mono (Nat.le_of_lt zl)); have zl := Nat.lt_of_lt_of_le zl hbn.size; have Xq := X; obtain ⟨a0, a1, a2, a3, a4, a5, a6, a7⟩ := Xq))
        go_ret
        exact ⟨by first | exact ret_bool HS.out.symm | exact ret_bool (by rw [HS.out]; simp), hcur⟩
    · have qp0 : ((d.a.s.length : Int) == 0) = true := len_zero_beq qp
      cases qz : d.a.dz
      · have HDZ : Hid (D.eqB d.a.d zeroD = false) := qz
        have hS : d.a.own = false := by simp [Ko.own, Ko.isVar, hk, qn, qp, qp0, qz]
        have HS := Lib.hid hS
        clear hS
        have H_hk := Lib.hid hk
        have H_qn := Lib.hid qn
        have H_qp := Lib.hid qp
        have H_qp0 := Lib.hid qp0
        have H_qz := Lib.hid qz
        have H_qn2 := Lib.hid qn2
        clear hk qn qp qp0 qz qn2
        go_enter Tryz.func257, Tryz.ntmps257
        go_upto_region 1 with fail
        rw [← hW]
        clear hW
        have hk := H_hk.out
        have qn := H_qn.out
        have qp := H_qp.out
        have qp0 := H_qp0.out
        have qz := H_qz.out
        have qn2 := H_qn2.out
        go_wp2_with (first
          | (go_at_call 174; with_reducible refine (HNM.out _).mono ?_; rintro e wn ⟨rfl, hbn⟩; rw [HV.out]; have X := X.below hbn zl; have hcur := hcur.trans (hbn.mono (Nat.le_of_lt zl)); have zl := Nat.lt_of_lt_of_le zl hbn.size; have Xq := X; obtain ⟨a0, a1, a2, a3, a4, a5, a6, a7⟩ := Xq)
          | (go_at_call 280; with_reducible refine (ieqz_any d B _ (hd.below (hcur.mono hB)) (Nat.le_trans hB hcur.size)).mono ?_; rintro e wn ⟨rfl, hbn⟩; rw [HDZ.out]; have X := X.below hbn zl; have hcur := hcur.trans (hbn.mono (Nat.le_of_lt zl)); have zl := Nat.lt_of_lt_of_le zl hbn.size; have Xq := X; obtain ⟨a0, a1, a2, a3, a4, a5, a6, a7⟩ := Xq))
        go_ret
        exact ⟨by first | exact ret_bool HS.out.symm | exact ret_bool (by rw [HS.out]; simp), hcur⟩
      · have HDZ : Hid (D.eqB d.a.d zeroD = true) := qz
        have hS : d.a.own = true := by simp [Ko.own, Ko.isVar, hk, qn, qp, qp0, qz]
        have HS := Lib.hid hS
        clear hS
        have H_hk := Lib.hid hk
        have H_qn := Lib.hid qn
        have H_qp := Lib.hid qp
        have H_qp0 := Lib.hid qp0
        have H_qz := Lib.hid qz
        have H_qn2 := Lib.hid qn2
        clear hk qn qp qp0 qz qn2
        go_enter Tryz.func257, Tryz.ntmps257
        go_upto_region 1 with fail
        rw [← hW]
        clear hW
        have hk := H_hk.out
        have qn := H_qn.out
        have qp := H_qp.out
        have qp0 := H_qp0.out
        have qz := H_qz.out
        have qn2 := H_qn2.out
        go_wp2_with (first
          | (go_at_call 174; with_reducible refine (HNM.out _).mono ?_; rintro e wn ⟨rfl, hbn⟩; rw [HV.out]; have X := X.below hbn zl; have hcur := hcur.trans (hbn.mono (Nat.le_of_lt zl)); have zl := Nat.lt_of_lt_of_le zl hbn.size; have Xq := X; obtain ⟨a0, a1, a2, a3, a4, a5, a6, a7⟩ := Xq)
          | (go_at_call 280; with_reducible refine (ieqz_any d B _ (hd.below (hcur.mono hB)) (Nat.le_trans hB hcur.size)).mono ?_; rintro e wn ⟨rfl, hbn⟩; rw [HDZ.out]; have X := X.below hbn zl; have hcur := hcur.trans (hbn.mono (Nat.le_of_lt zl)); have zl := Nat.lt_of_lt_of_le zl hbn.size; have Xq := X; obtain ⟨a0, a1, a2, a3, a4, a5, a6, a7⟩ := Xq))
        go_ret
        exact ⟨by first | exact ret_bool HS.out.symm | exact ret_bool (by rw [HS.out]; simp), hcur⟩
end Go.Proofs.YtpigpncbjckbcaaGreat
namespace Go.Proofs.YtpigpncbjckbcaaGreat
open Go.RowKit
def isSq (d : Tr Ko) : Bool := d.a.k == 8
set_option maxRecDepth 100000 in
theorem isSq_any (d : Tr Ko) (w : World) : Calls Tryz.prog 281 #[Ko.val d] w fun e w' => e = .returned (.bool (isSq d)) ∧ Below w.heap.size w w' := by
  have b1 : Below w.heap.size w (w.alloc (.cells #[.int .i64 d.a.k, .int .i64 d.a.n, .slice d.a.sA d.a.s.length d.a.sC, .int .i64 d.a.d.k, .int .i64 d.a.d.n, .string d.a.d.t, .slice d.a.d.A d.a.d.l.length d.a.d.c, .slice d.A d.l.length d.c] 35)) := (Below.refl _ _).alloc (Nat.le_refl _) _
  unfold Ko.val
  obtain ⟨V, hV⟩ : ∃ V, V = isSq d := ⟨_, rfl⟩
  rw [← hV]
  have HV : Hid (V = (d.a.k == 8)) := hV
  clear hV
  go_enter Tryz.func281, Tryz.ntmps281
  go_wp2_with fail
  go_ret
  exact ⟨ret_bool HV.out.symm, b1⟩
set_option maxRecDepth 100000 in
set_option maxHeartbeats 1000000 in
theorem idxSq_any (A : Option Addr) (c : Nat) (l : List (Tr Ko)) (B : Nat) (w : World) (hin : Ko.E.LIn w B A c l) (hB : B ≤ w.heap.size) :
    Calls Tryz.prog 226 #[.slice A l.length c, .func (.func 281) #[] #[]] w fun e w' => (∃ x : Int, e = .returned (.int .i64 x) ∧ -1 ≤ x ∧ x ≤ 9223372036854775807 ∧ decide (0 ≤ x) = l.any isSq) ∧ Below w.heap.size w w' := by
  have hcap := hin.cap
  go_enter Tryz.func226, Tryz.ntmps226
  go_wp2_with fail
  go_loopw [8] (fun i wr => ∃ j : Nat, j ≤ l.length ∧ i = .int .i64 j ∧ Hid ((l.take j).any isSq = false) ∧ Below w.heap.size w wr) (fun i _ => l.length - (intOf i).toNat)
  case atStart => exact ⟨0, Nat.zero_le _, rfl, rfl, Below.refl _ _⟩
  case round =>
    obtain ⟨j, hj, rfl, HN, hb⟩ := hrel
    have hs2 := hb.size
    by_cases hlt : j < l.length
    · obtain ⟨b, o, rfl, hblk, c0, c1, c2, c3, c4, c5, c6, c7, hix⟩ := Ko.at_ (hin.below (hb.mono hB)) (i := j) (x := l[j]) (List.getElem?_eq_getElem hlt)
      have gg1 : (0 : Int) ≤ (j : Int) := by omega
      have gg2 : (j : Int) < (l.length : Int) := by omega
      go_wp2_with fail
      refine (isSq_any l[j] wr).mono ?_
      rintro e w1 ⟨rfl, hb1⟩
      have HB := Lib.hid (hb.trans (hb1.mono hs2))
      clear hb1
      cases hq : isSq l[j]
      · have HQ := Lib.hid hq
        clear hq
        go_wp2_with fail
        go_roundw
        case rel => exact ⟨j + 1, by omega, by go_num, by (show _ = _); rw [List.take_succ_eq_append_getElem hlt, List.any_append, HN.out]; simp [HQ.out], HB.out⟩
        case measure => simp [intOf]; omega
      · have HQ : Hid (l.any isSq = true) := List.any_eq_true.2 ⟨l[j], List.getElem_mem hlt, hq⟩
        clear hq
        go_wp2_with fail
        go_ret
        exact ⟨⟨j, rfl, by omega, by omega, by rw [HQ.out]; simp⟩, HB.out⟩
    · have hj' : j = l.length := by omega
      subst hj'
      have HQ : Hid (l.any isSq = false) := by have := HN.out; rwa [List.take_length] at this
      go_wp2_with fail
      go_ret
      exact ⟨⟨-1, rfl, by omega, by omega, by rw [HQ.out]; decide⟩, hb⟩
set_option maxRecDepth 100000 in
theorem conSq_any (A : Option Addr) (c : Nat) (l : List (Tr Ko)) (B : Nat) (w : World) (hin : Ko.E.LIn w B A c l) (hB : B ≤ w.heap.size) :
    Calls Tryz.prog 161 #[.slice A l.length c, .func (.func 281) #[] #[]] w fun e w' => e = .returned (.bool (l.any isSq)) ∧ Below w.heap.size w w' := by
  obtain ⟨V, hV⟩ : ∃ V, V = l.any isSq := ⟨_, rfl⟩
  have hi := idxSq_any A c l B w hin hB
  rw [← hV] at hi ⊢
  clear hV
  go_enter Tryz.func161, Tryz.ntmps161
  go_wp2_with fail
  refine hi.mono ?_
  rintro e w1 ⟨⟨x, rfl, x1, x2, hx⟩, hb1⟩
  have HX := Lib.hid hx
  clear hx
  go_wp2_with fail
  go_ret
  exact ⟨ret_bool HX.out, hb1⟩
end Go.Proofs.YtpigpncbjckbcaaGreat
namespace Go.Proofs.YtpigpncbjckbcaaGreat
open Go.RowKit
def nKind (k n p nk : Int) (dv sq : Bool) : Bool := if k = 1 then ((nk == 0) && dv) else if k = 2 then (nk == 0) else if k = 3 then ((nk == 0) && (decide (0 ≤ n) && decide (n < 14))) else if k = 4 then (nk == 1) else if k = 5 then (decide (p ≤ 8) && (nk == 1)) else if k = 6 then (decide (1 ≤ nk) && decide (nk ≤ 9)) else if k = 7 then (nk == 3) else if k = 8 then (decide (2 ≤ nk) && (decide (nk ≤ 60) && !sq)) else if k = 9 then (decide (1 ≤ p) && (decide (p ≤ 60) && (decide (1 ≤ nk) && decide (nk ≤ 60)))) else if k = 10 then (nk == 1) else if k = 11 then ((p == 1) && (nk == 1)) else false
def Ko.node (a : Ko) (nk : Nat) (sq : Bool) : Bool := nKind a.k a.n a.s.length nk a.dv sq
theorem iIsD_u (d : Tr Ko) (B : Nat) (w : World) (hd : d.a.d.In w B) (hB : B ≤ w.heap.size) : Calls Tryz.prog 259 #[.agg #[.int .i64 d.a.d.k, .int .i64 d.a.d.n, .string d.a.d.t, .slice d.a.d.A d.a.d.l.length d.a.d.c]] w fun e w' => e = .returned (.bool (D.isD d.a.d)) ∧ Below w.heap.size w w' := implIsD_any d.a.d B w hd hB
end Go.Proofs.YtpigpncbjckbcaaGreat
