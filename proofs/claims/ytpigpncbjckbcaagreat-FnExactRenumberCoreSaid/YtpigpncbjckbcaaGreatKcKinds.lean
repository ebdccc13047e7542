/-
  A node of a term: the program's isNode, kind by kind (written by gen/konode.py).
-/
import Derived.Test.YtpigpncbjckbcaaGreatKcOwns
namespace Go.Proofs.YtpigpncbjckbcaaGreat
open Go.RowKit
set_option maxRecDepth 100000 in
set_option maxHeartbeats 800000 in
theorem node1_any (d : Tr Ko) (B : Nat) (w : World) (hin : Ko.E.In w B d) (hB : B ≤ w.heap.size) (hsz : d.a.d.size ≤ 2000000) (hk : d.a.k = 1) : Calls Tryz.prog 258 #[Ko.val d] w fun e w' => e = .returned (.bool (d.a.node d.l.length (d.l.any isSq))) ∧ Below w.heap.size w w' := by
  have hd := (Ko.E_in hin).1.d
  obtain ⟨W, hW⟩ : ∃ W, W = w.alloc (.cells #[.int .i64 d.a.k, .int .i64 d.a.n, .slice d.a.sA d.a.s.length d.a.sC, .int .i64 d.a.d.k, .int .i64 d.a.d.n, .string d.a.d.t, .slice d.a.d.A d.a.d.l.length d.a.d.c, .slice d.A d.l.length d.c] 35) := ⟨_, rfl⟩
  have zW : W.heap.size = w.heap.size + 1 := by rw [hW]; simp
  have zl : w.heap.size < W.heap.size := by omega
  have hcur : Below w.heap.size w W := by rw [hW]; exact (Below.refl _ _).alloc (Nat.le_refl _) _
  have X : Ko.Box W w.heap.size d := by rw [hW]; exact Ko.Box.new _ _ _
  clear zW
  have d2 : ∀ z : Near W, z.at_.cell? ⟨w.heap.size, 2, none⟩ = some (.slice d.a.sA d.a.s.length d.a.sC) := fun z => z.cell 2 X.c2 zl
  have d7 : ∀ z : Near W, z.at_.cell? ⟨w.heap.size, 7, none⟩ = some (.slice d.A d.l.length d.c) := fun z => z.cell 7 X.c7 zl
  unfold Ko.val
  cases q0 : ((d.l.length : Int) == 0)
  · have hS : d.a.node d.l.length (d.l.any isSq) = false := by simp [Ko.node, nKind, hk, q0]
    have HS := Lib.hid hS
    clear hS
    have H_hk := Lib.hid hk
    have H_q0 := Lib.hid q0
    clear hk q0
    go_enter Tryz.func258, Tryz.ntmps258
    go_upto_region 1 with fail
    rw [← hW]
    clear hW
    refine wp_region_near (by kernel_rfl) (by kernel_rfl) ?_
    repeat (go_big_quiet_step (fail))
    refine wpQuiet_nil ?_
    intro _ hw1
    obtain ⟨nx, hw2⟩ := hw1
    subst hw2
    have hcur := hcur.trans (nx.below.mono (Nat.le_of_lt zl))
    have X := X.below nx.below zl
    have zl := Nat.lt_of_lt_of_le zl nx.below.size
    clear d2 d7
    have Xq := X
    obtain ⟨a0, a1, a2, a3, a4, a5, a6, a7⟩ := Xq
    have hk := H_hk.out
    have q0 := H_q0.out
    go_wp2_with (first
      | (go_at_call 259; with_reducible refine (iIsD_u d B _ (hd.below (hcur.mono hB)) (Nat.le_trans hB hcur.size)).mono ?_; rintro e wn ⟨rfl, hbn⟩; rw [HDV.out]; have X := X.below hbn zl; have hcur := hcur.trans (hbn.mono (Nat.le_of_lt zl)); have zl := Nat.lt_of_lt_of_le zl hbn.size; have Xq := X; obtain ⟨a0, a1, a2, a3, a4, a5, a6, a7⟩ := Xq)
      | (go_at_call 161; with_reducible refine (conSq_any d.A d.c d.l B _ ((Ko.E_in hin).2.below (hcur.mono hB)) (Nat.le_trans hB hcur.size)).mono ?_; rintro e wn ⟨rfl, hbn⟩; rw [HSQ.out]; have X := X.below hbn zl; have hcur := hcur.trans (hbn.mono (Nat.le_of_lt zl)); have zl := Nat.lt_of_lt_of_le zl hbn.size; have Xq := X; obtain ⟨a0, a1, a2, a3, a4, a5, a6, a7⟩ := Xq))
    go_ret
    exact ⟨by first | exact ret_bool HS.out.symm | exact ret_bool (by have h := HS.out; rw [HSQ.out] at h; exact h.symm) | exact ret_bool (by rw [HS.out]; simp <;> omega), hcur⟩
  · cases q1 : d.a.dv
    · have HDV : Hid (D.isD d.a.d = false) := q1
      have hS : d.a.node d.l.length (d.l.any isSq) = false := by simp [Ko.node, nKind, hk, q0, q1]
      have HS := Lib.hid hS
      clear hS
      have H_hk := Lib.hid hk
      have H_q0 := Lib.hid q0
      have H_q1 := Lib.hid q1
      clear hk q0 q1
      go_enter Tryz.func258, Tryz.ntmps258
      go_upto_region 1 with fail
      rw [← hW]
      clear hW
      refine wp_region_near (by kernel_rfl) (by kernel_rfl) ?_
      repeat (go_big_quiet_step (fail))
      refine wpQuiet_nil ?_
      intro _ hw1
      obtain ⟨nx, hw2⟩ := hw1
      subst hw2
      have hcur := hcur.trans (nx.below.mono (Nat.le_of_lt zl))
      have X := X.below nx.below zl
      have zl := Nat.lt_of_lt_of_le zl nx.below.size
      clear d2 d7
      have Xq := X
      obtain ⟨a0, a1, a2, a3, a4, a5, a6, a7⟩ := Xq
      have hk := H_hk.out
      have q0 := H_q0.out
      have q1 := H_q1.out
      go_wp2_with (first
        | (go_at_call 259; with_reducible refine (iIsD_u d B _ (hd.below (hcur.mono hB)) (Nat.le_trans hB hcur.size)).mono ?_; rintro e wn ⟨rfl, hbn⟩; rw [HDV.out]; have X := X.below hbn zl; have hcur := hcur.trans (hbn.mono (Nat.le_of_lt zl)); have zl := Nat.lt_of_lt_of_le zl hbn.size; have Xq := X; obtain ⟨a0, a1, a2, a3, a4, a5, a6, a7⟩ := Xq)
        | (go_at_call 161; with_reducible refine (conSq_any d.A d.c d.l B _ ((Ko.E_in hin).2.below (hcur.mono hB)) (Nat.le_trans hB hcur.size)).mono ?_; rintro e wn ⟨rfl, hbn⟩; rw [HSQ.out]; have X := X.below hbn zl; have hcur := hcur.trans (hbn.mono (Nat.le_of_lt zl)); have zl := Nat.lt_of_lt_of_le zl hbn.size; have Xq := X; obtain ⟨a0, a1, a2, a3, a4, a5, a6, a7⟩ := Xq))
      go_ret
      exact ⟨by first | exact ret_bool HS.out.symm | exact ret_bool (by have h := HS.out; rw [HSQ.out] at h; exact h.symm) | exact ret_bool (by rw [HS.out]; simp <;> omega), hcur⟩
    · have HDV : Hid (D.isD d.a.d = true) := q1
      have hS : d.a.node d.l.length (d.l.any isSq) = true := by simp [Ko.node, nKind, hk, q0, q1]
      have HS := Lib.hid hS
      clear hS
      have H_hk := Lib.hid hk
      have H_q0 := Lib.hid q0
      have H_q1 := Lib.hid q1
      clear hk q0 q1
      go_enter Tryz.func258, Tryz.ntmps258
      go_upto_region 1 with fail
      rw [← hW]
      clear hW
      refine wp_region_near (by kernel_rfl) (by kernel_rfl) ?_
      repeat (go_big_quiet_step (fail))
      refine wpQuiet_nil ?_
      intro _ hw1
      obtain ⟨nx, hw2⟩ := hw1
      subst hw2
      have hcur := hcur.trans (nx.below.mono (Nat.le_of_lt zl))
      have X := X.below nx.below zl
      have zl := Nat.lt_of_lt_of_le zl nx.below.size
      clear d2 d7
      have Xq := X
      obtain ⟨a0, a1, a2, a3, a4, a5, a6, a7⟩ := Xq
      have hk := H_hk.out
      have q0 := H_q0.out
      have q1 := H_q1.out
      go_wp2_with (first
        | (go_at_call 259; with_reducible refine (iIsD_u d B _ (hd.below (hcur.mono hB)) (Nat.le_trans hB hcur.size)).mono ?_; rintro e wn ⟨rfl, hbn⟩; rw [HDV.out]; have X := X.below hbn zl; have hcur := hcur.trans (hbn.mono (Nat.le_of_lt zl)); have zl := Nat.lt_of_lt_of_le zl hbn.size; have Xq := X; obtain ⟨a0, a1, a2, a3, a4, a5, a6, a7⟩ := Xq)
        | (go_at_call 161; with_reducible refine (conSq_any d.A d.c d.l B _ ((Ko.E_in hin).2.below (hcur.mono hB)) (Nat.le_trans hB hcur.size)).mono ?_; rintro e wn ⟨rfl, hbn⟩; rw [HSQ.out]; have X := X.below hbn zl; have hcur := hcur.trans (hbn.mono (Nat.le_of_lt zl)); have zl := Nat.lt_of_lt_of_le zl hbn.size; have Xq := X; obtain ⟨a0, a1, a2, a3, a4, a5, a6, a7⟩ := Xq))
      go_ret
      exact ⟨by first | exact ret_bool HS.out.symm | exact ret_bool (by have h := HS.out; rw [HSQ.out] at h; exact h.symm) | exact ret_bool (by rw [HS.out]; simp <;> omega), hcur⟩
set_option maxRecDepth 100000 in
set_option maxHeartbeats 800000 in
theorem node2_any (d : Tr Ko) (B : Nat) (w : World) (hin : Ko.E.In w B d) (hB : B ≤ w.heap.size) (hsz : d.a.d.size ≤ 2000000) (hk : d.a.k = 2) : Calls Tryz.prog 258 #[Ko.val d] w fun e w' => e = .returned (.bool (d.a.node d.l.length (d.l.any isSq))) ∧ Below w.heap.size w w' := by
  have hd := (Ko.E_in hin).1.d
  obtain ⟨W, hW⟩ : ∃ W, W = w.alloc (.cells #[.int .i64 d.a.k, .int .i64 d.a.n, .slice d.a.sA d.a.s.length d.a.sC, .int .i64 d.a.d.k, .int .i64 d.a.d.n, .string d.a.d.t, .slice d.a.d.A d.a.d.l.length d.a.d.c, .slice d.A d.l.length d.c] 35) := ⟨_, rfl⟩
  have zW : W.heap.size = w.heap.size + 1 := by rw [hW]; simp
  have zl : w.heap.size < W.heap.size := by omega
  have hcur : Below w.heap.size w W := by rw [hW]; exact (Below.refl _ _).alloc (Nat.le_refl _) _
  have X : Ko.Box W w.heap.size d := by rw [hW]; exact Ko.Box.new _ _ _
  clear zW
  have d2 : ∀ z : Near W, z.at_.cell? ⟨w.heap.size, 2, none⟩ = some (.slice d.a.sA d.a.s.length d.a.sC) := fun z => z.cell 2 X.c2 zl
  have d7 : ∀ z : Near W, z.at_.cell? ⟨w.heap.size, 7, none⟩ = some (.slice d.A d.l.length d.c) := fun z => z.cell 7 X.c7 zl
  unfold Ko.val
  cases q0 : ((d.l.length : Int) == 0)
  · have hS : d.a.node d.l.length (d.l.any isSq) = false := by simp [Ko.node, nKind, hk, q0]
    have HS := Lib.hid hS
    clear hS
    have H_hk := Lib.hid hk
    have H_q0 := Lib.hid q0
    clear hk q0
    go_enter Tryz.func258, Tryz.ntmps258
    go_upto_region 1 with fail
    rw [← hW]
    clear hW
    refine wp_region_near (by kernel_rfl) (by kernel_rfl) ?_
    repeat (go_big_quiet_step (fail))
    refine wpQuiet_nil ?_
    intro _ hw1
    obtain ⟨nx, hw2⟩ := hw1
    subst hw2
    have hcur := hcur.trans (nx.below.mono (Nat.le_of_lt zl))
    have X := X.below nx.below zl
    have zl := Nat.lt_of_lt_of_le zl nx.below.size
    clear d2 d7
    have Xq := X
    obtain ⟨a0, a1, a2, a3, a4, a5, a6, a7⟩ := Xq
    have hk := H_hk.out
    have q0 := H_q0.out
    go_wp2_with (first
      | (go_at_call 259; with_reducible refine (iIsD_u d B _ (hd.below (hcur.mono hB)) (Nat.le_trans hB hcur.size)).mono ?_; rintro e wn ⟨rfl, hbn⟩; rw [HDV.out]; have X := X.below hbn zl; have hcur := hcur.trans (hbn.mono (Nat.le_of_lt zl)); have zl := Nat.lt_of_lt_of_le zl hbn.size; have Xq := X; obtain ⟨a0, a1, a2, a3, a4, a5, a6, a7⟩ := Xq)
      | (go_at_call 161; with_reducible refine (conSq_any d.A d.c d.l B _ ((Ko.E_in hin).2.below (hcur.mono hB)) (Nat.le_trans hB hcur.size)).mono ?_; rintro e wn ⟨rfl, hbn⟩; rw [HSQ.out]; have X := X.below hbn zl; have hcur := hcur.trans (hbn.mono (Nat.le_of_lt zl)); have zl := Nat.lt_of_lt_of_le zl hbn.size; have Xq := X; obtain ⟨a0, a1, a2, a3, a4, a5, a6, a7⟩ := Xq))
    go_ret
    exact ⟨by first | exact ret_bool HS.out.symm | exact ret_bool (by have h := HS.out; rw [HSQ.out] at h; exact h.symm) | exact ret_bool (by rw [HS.out]; simp <;> omega), hcur⟩
  · have hS : d.a.node d.l.length (d.l.any isSq) = true := by simp [Ko.node, nKind, hk, q0]
    have HS := Lib.hid hS
    clear hS
    have H_hk := Lib.hid hk
    have H_q0 := Lib.hid q0
    clear hk q0
    go_enter Tryz.func258, Tryz.ntmps258
    go_upto_region 1 with fail
    rw [← hW]
    clear hW
    refine wp_region_near (by kernel_rfl) (by kernel_rfl) ?_
    repeat (go_big_quiet_step (fail))
    refine wpQuiet_nil ?_
    intro _ hw1
    obtain ⟨nx, hw2⟩ := hw1
    subst hw2
    have hcur := hcur.trans (nx.below.mono (Nat.le_of_lt zl))
    have X := X.below nx.below zl
    have zl := Nat.lt_of_lt_of_le zl nx.below.size
    clear d2 d7
    have Xq := X
    obtain ⟨a0, a1, a2, a3, a4, a5, a6, a7⟩ := Xq
    have hk := H_hk.out
    have q0 := H_q0.out
    go_wp2_with (first
      | (go_at_call 259; with_reducible refine (iIsD_u d B _ (hd.below (hcur.mono hB)) (Nat.le_trans hB hcur.size)).mono ?_; rintro e wn ⟨rfl, hbn⟩; rw [HDV.out]; have X := X.below hbn zl; have hcur := hcur.trans (hbn.mono (Nat.le_of_lt zl)); have zl := Nat.lt_of_lt_of_le zl hbn.size; have Xq := X; obtain ⟨a0, a1, a2, a3, a4, a5, a6, a7⟩ := Xq)
      | (go_at_call 161; with_reducible refine (conSq_any d.A d.c d.l B _ ((Ko.E_in hin).2.below (hcur.mono hB)) (Nat.le_trans hB hcur.size)).mono ?_; rintro e wn ⟨rfl, hbn⟩; rw [HSQ.out]; have X := X.below hbn zl; have hcur := hcur.trans (hbn.mono (Nat.le_of_lt zl)); have zl := Nat.lt_of_lt_of_le zl hbn.size; have Xq := X; obtain ⟨a0, a1, a2, a3, a4, a5, a6, a7⟩ := Xq))
    go_ret
    exact ⟨by first | exact ret_bool HS.out.symm | exact ret_bool (by have h := HS.out; rw [HSQ.out] at h; exact h.symm) | exact ret_bool (by rw [HS.out]; simp <;> omega), hcur⟩
set_option maxRecDepth 100000 in
set_option maxHeartbeats 800000 in
theorem node4_any (d : Tr Ko) (B : Nat) (w : World) (hin : Ko.E.In w B d) (hB : B ≤ w.heap.size) (hsz : d.a.d.size ≤ 2000000) (hk : d.a.k = 4) : Calls Tryz.prog 258 #[Ko.val d] w fun e w' => e = .returned (.bool (d.a.node d.l.length (d.l.any isSq))) ∧ Below w.heap.size w w' := by
  have hd := (Ko.E_in hin).1.d
  obtain ⟨W, hW⟩ : ∃ W, W = w.alloc (.cells #[.int .i64 d.a.k, .int .i64 d.a.n, .slice d.a.sA d.a.s.length d.a.sC, .int .i64 d.a.d.k, .int .i64 d.a.d.n, .string d.a.d.t, .slice d.a.d.A d.a.d.l.length d.a.d.c, .slice d.A d.l.length d.c] 35) := ⟨_, rfl⟩
  have zW : W.heap.size = w.heap.size + 1 := by rw [hW]; simp
  have zl : w.heap.size < W.heap.size := by omega
  have hcur : Below w.heap.size w W := by rw [hW]; exact (Below.refl _ _).alloc (Nat.le_refl _) _
  have X : Ko.Box W w.heap.size d := by rw [hW]; exact Ko.Box.new _ _ _
  clear zW
  have d2 : ∀ z : Near W, z.at_.cell? ⟨w.heap.size, 2, none⟩ = some (.slice d.a.sA d.a.s.length d.a.sC) := fun z => z.cell 2 X.c2 zl
  have d7 : ∀ z : Near W, z.at_.cell? ⟨w.heap.size, 7, none⟩ = some (.slice d.A d.l.length d.c) := fun z => z.cell 7 X.c7 zl
  unfold Ko.val
  cases q0 : ((d.l.length : Int) == 1)
  · have hS : d.a.node d.l.length (d.l.any isSq) = false := by simp [Ko.node, nKind, hk, q0]
    have HS := Lib.hid hS
    clear hS
    have H_hk := Lib.hid hk
    have H_q0 := Lib.hid q0
    clear hk q0
    go_enter Tryz.func258, Tryz.ntmps258
    go_upto_region 1 with fail
    rw [← hW]
    clear hW
    refine wp_region_near (by kernel_rfl) (by kernel_rfl) ?_
    repeat (go_big_quiet_step (fail))
    refine wpQuiet_nil ?_
    intro _ hw1
    obtain ⟨nx, hw2⟩ := hw1
    subst hw2
    have hcur := hcur.trans (nx.below.mono (Nat.le_of_lt zl))
    have X := X.below nx.below zl
    have zl := Nat.lt_of_lt_of_le zl nx.below.size
    clear d2 d7
    have Xq := X
    obtain ⟨a0, a1, a2, a3, a4, a5, a6, a7⟩ := Xq
    have hk := H_hk.out
    have q0 := H_q0.out
    go_wp2_with (first
      | (go_at_call 259; with_reducible refine (iIsD_u d B _ (hd.below (hcur.mono hB)) (Nat.le_trans hB hcur.size)).mono ?_; rintro e wn ⟨rfl, hbn⟩; rw [HDV.out]; have X := X.below hbn zl; have hcur := hcur.trans (hbn.mono (Nat.le_of_lt zl)); have zl := Nat.lt_of_lt_of_le zl hbn.size; have Xq := X; obtain ⟨a0, a1, a2, a3, a4, a5, a6, a7⟩ := Xq)
      | (go_at_call 161; with_reducible refine (conSq_any d.A d.c d.l B _ ((Ko.E_in hin).2.below (hcur.mono hB)) (Nat.le_trans hB hcur.size)).mono ?_; rintro e wn ⟨rfl, hbn⟩; rw [HSQ.out]; have X := X.below hbn zl; have hcur := hcur.trans (hbn.mono (Nat.le_of_lt zl)); have zl := Nat.lt_of_lt_of_le zl hbn.size; have Xq := X; obtain ⟨a0, a1, a2, a3, a4, a5, a6, a7⟩ := Xq))
    go_ret
    exact ⟨by first | exact ret_bool HS.out.symm | exact ret_bool (by have h := HS.out; rw [HSQ.out] at h; exact h.symm) | exact ret_bool (by rw [HS.out]; simp <;> omega), hcur⟩
  · have hS : d.a.node d.l.length (d.l.any isSq) = true := by simp [Ko.node, nKind, hk, q0]
    have HS := Lib.hid hS
    clear hS
    have H_hk := Lib.hid hk
    have H_q0 := Lib.hid q0
    clear hk q0
    go_enter Tryz.func258, Tryz.ntmps258
    go_upto_region 1 with fail
    rw [← hW]
    clear hW
    refine wp_region_near (by kernel_rfl) (by kernel_rfl) ?_
    repeat (go_big_quiet_step (fail))
    refine wpQuiet_nil ?_
    intro _ hw1
    obtain ⟨nx, hw2⟩ := hw1
    subst hw2
    have hcur := hcur.trans (nx.below.mono (Nat.le_of_lt zl))
    have X := X.below nx.below zl
    have zl := Nat.lt_of_lt_of_le zl nx.below.size
    clear d2 d7
    have Xq := X
    obtain ⟨a0, a1, a2, a3, a4, a5, a6, a7⟩ := Xq
    have hk := H_hk.out
    have q0 := H_q0.out
    go_wp2_with (first
      | (go_at_call 259; with_reducible refine (iIsD_u d B _ (hd.below (hcur.mono hB)) (Nat.le_trans hB hcur.size)).mono ?_; rintro e wn ⟨rfl, hbn⟩; rw [HDV.out]; have X := X.below hbn zl; have hcur := hcur.trans (hbn.mono (Nat.le_of_lt zl)); have zl := Nat.lt_of_lt_of_le zl hbn.size; have Xq := X; obtain ⟨a0, a1, a2, a3, a4, a5, a6, a7⟩ := Xq)
      | (go_at_call 161; with_reducible refine (conSq_any d.A d.c d.l B _ ((Ko.E_in hin).2.below (hcur.mono hB)) (Nat.le_trans hB hcur.size)).mono ?_; rintro e wn ⟨rfl, hbn⟩; rw [HSQ.out]; have X := X.below hbn zl; have hcur := hcur.trans (hbn.mono (Nat.le_of_lt zl)); have zl := Nat.lt_of_lt_of_le zl hbn.size; have Xq := X; obtain ⟨a0, a1, a2, a3, a4, a5, a6, a7⟩ := Xq))
    go_ret
    exact ⟨by first | exact ret_bool HS.out.symm | exact ret_bool (by have h := HS.out; rw [HSQ.out] at h; exact h.symm) | exact ret_bool (by rw [HS.out]; simp <;> omega), hcur⟩
set_option maxRecDepth 100000 in
set_option maxHeartbeats 800000 in
theorem node5_any (d : Tr Ko) (B : Nat) (w : World) (hin : Ko.E.In w B d) (hB : B ≤ w.heap.size) (hsz : d.a.d.size ≤ 2000000) (hk : d.a.k = 5) : Calls Tryz.prog 258 #[Ko.val d] w fun e w' => e = .returned (.bool (d.a.node d.l.length (d.l.any isSq))) ∧ Below w.heap.size w w' := by
  have hd := (Ko.E_in hin).1.d
  obtain ⟨W, hW⟩ : ∃ W, W = w.alloc (.cells #[.int .i64 d.a.k, .int .i64 d.a.n, .slice d.a.sA d.a.s.length d.a.sC, .int .i64 d.a.d.k, .int .i64 d.a.d.n, .string d.a.d.t, .slice d.a.d.A d.a.d.l.length d.a.d.c, .slice d.A d.l.length d.c] 35) := ⟨_, rfl⟩
  have zW : W.heap.size = w.heap.size + 1 := by rw [hW]; simp
  have zl : w.heap.size < W.heap.size := by omega
  have hcur : Below w.heap.size w W := by rw [hW]; exact (Below.refl _ _).alloc (Nat.le_refl _) _
  have X : Ko.Box W w.heap.size d := by rw [hW]; exact Ko.Box.new _ _ _
  clear zW
  have d2 : ∀ z : Near W, z.at_.cell? ⟨w.heap.size, 2, none⟩ = some (.slice d.a.sA d.a.s.length d.a.sC) := fun z => z.cell 2 X.c2 zl
  have d7 : ∀ z : Near W, z.at_.cell? ⟨w.heap.size, 7, none⟩ = some (.slice d.A d.l.length d.c) := fun z => z.cell 7 X.c7 zl
  unfold Ko.val
  by_cases q0 : (d.a.s.length : Int) ≤ 8
  · cases q1 : ((d.l.length : Int) == 1)
    · have hS : d.a.node d.l.length (d.l.any isSq) = false := by simp [Ko.node, nKind, hk, q0, q1]
      have HS := Lib.hid hS
      clear hS
      have H_hk := Lib.hid hk
      have H_q0 := Lib.hid q0
      have H_q1 := Lib.hid q1
      clear hk q0 q1
      go_enter Tryz.func258, Tryz.ntmps258
      go_upto_region 1 with fail
      rw [← hW]
      clear hW
      refine wp_region_near (by kernel_rfl) (by kernel_rfl) ?_
      repeat (go_big_quiet_step (fail))
      refine wpQuiet_nil ?_
      intro _ hw1
      obtain ⟨nx, hw2⟩ := hw1
      subst hw2
      have hcur := hcur.trans (nx.below.mono (Nat.le_of_lt zl))
      have X := X.below nx.below zl
      have zl := Nat.lt_of_lt_of_le zl nx.below.size
      clear d2 d7
      have Xq := X
      obtain ⟨a0, a1, a2, a3, a4, a5, a6, a7⟩ := Xq
      have hk := H_hk.out
      have q0 := H_q0.out
      have q1 := H_q1.out
      go_wp2_with (first
        | (go_at_call 259; with_reducible refine (iIsD_u d B _ (hd.below (hcur.mono hB)) (Nat.le_trans hB hcur.size)).mono ?_; rintro e wn ⟨rfl, hbn⟩; rw [HDV.out]; have X := X.below hbn zl; have hcur := hcur.trans (hbn.mono (Nat.le_of_lt zl)); have zl := Nat.lt_of_lt_of_le zl hbn.size; have Xq := X; obtain ⟨a0, a1, a2, a3, a4, a5, a6, a7⟩ := Xq)
        | (go_at_call 161; with_reducible refine (conSq_any d.A d.c d.l B _ ((Ko.E_in hin).2.below (hcur.mono hB)) (Nat.le_trans hB hcur.size)).mono ?_; rintro e wn ⟨rfl, hbn⟩; rw [HSQ.out]; have X := X.below hbn zl; have hcur := hcur.trans (hbn.mono (Nat.le_of_lt zl)); have zl := Nat.lt_of_lt_of_le zl hbn.size; have Xq := X; obtain ⟨a0, a1, a2, a3, a4, a5, a6, a7⟩ := Xq))
      go_ret
      exact ⟨by first | exact ret_bool HS.out.symm | exact ret_bool (by have h := HS.out; rw [HSQ.out] at h; exact h.symm) | exact ret_bool (by rw [HS.out]; simp <;> omega), hcur⟩
    · have hS : d.a.node d.l.length (d.l.any isSq) = true := by simp [Ko.node, nKind, hk, q0, q1]
      have HS := Lib.hid hS
      clear hS
      have H_hk := Lib.hid hk
      have H_q0 := Lib.hid q0
      have H_q1 := Lib.hid q1
      clear hk q0 q1
      go_enter Tryz.func258, Tryz.ntmps258
      go_upto_region 1 with fail
      rw [← hW]
      clear hW
      refine wp_region_near (by kernel_rfl) (by kernel_rfl) ?_
      repeat (go_big_quiet_step (fail))
      refine wpQuiet_nil ?_
      intro _ hw1
      obtain ⟨nx, hw2⟩ := hw1
      subst hw2
      have hcur := hcur.trans (nx.below.mono (Nat.le_of_lt zl))
      have X := X.below nx.below zl
      have zl := Nat.lt_of_lt_of_le zl nx.below.size
      clear d2 d7
      have Xq := X
      obtain ⟨a0, a1, a2, a3, a4, a5, a6, a7⟩ := Xq
      have hk := H_hk.out
      have q0 := H_q0.out
      have q1 := H_q1.out
      go_wp2_with (first
        | (go_at_call 259; with_reducible refine (iIsD_u d B _ (hd.below (hcur.mono hB)) (Nat.le_trans hB hcur.size)).mono ?_; rintro e wn ⟨rfl, hbn⟩; rw [HDV.out]; have X := X.below hbn zl; have hcur := hcur.trans (hbn.mono (Nat.le_of_lt zl)); have zl := Nat.lt_of_lt_of_le zl hbn.size; have Xq := X; obtain ⟨a0, a1, a2, a3, a4, a5, a6, a7⟩ := Xq)
        | (go_at_call 161; with_reducible refine (conSq_any d.A d.c d.l B _ ((Ko.E_in hin).2.below (hcur.mono hB)) (Nat.le_trans hB hcur.size)).mono ?_; rintro e wn ⟨rfl, hbn⟩; rw [HSQ.out]; have X := X.below hbn zl; have hcur := hcur.trans (hbn.mono (Nat.le_of_lt zl)); have zl := Nat.lt_of_lt_of_le zl hbn.size; have Xq := X; obtain ⟨a0, a1, a2, a3, a4, a5, a6, a7⟩ := Xq))
      go_ret
      exact ⟨by first | exact ret_bool HS.out.symm | exact ret_bool (by have h := HS.out; rw [HSQ.out] at h; exact h.symm) | exact ret_bool (by rw [HS.out]; simp <;> omega), hcur⟩
  · have hS : d.a.node d.l.length (d.l.any isSq) = false := by simp [Ko.node, nKind, hk, q0]
    have HS := Lib.hid hS
    clear hS
    have H_hk := Lib.hid hk
    have H_q0 := Lib.hid q0
    clear hk q0
    go_enter Tryz.func258, Tryz.ntmps258
    go_upto_region 1 with fail
    rw [← hW]
    clear hW
    refine wp_region_near (by kernel_rfl) (by kernel_rfl) ?_
    repeat (go_big_quiet_step (fail))
    refine wpQuiet_nil ?_
    intro _ hw1
    obtain ⟨nx, hw2⟩ := hw1
    subst hw2
    have hcur := hcur.trans (nx.below.mono (Nat.le_of_lt zl))
    have X := X.below nx.below zl
    have zl := Nat.lt_of_lt_of_le zl nx.below.size
    clear d2 d7
    have Xq := X
    obtain ⟨a0, a1, a2, a3, a4, a5, a6, a7⟩ := Xq
    have hk := H_hk.out
    have q0 := H_q0.out
    go_wp2_with (first
      | (go_at_call 259; with_reducible refine (iIsD_u d B _ (hd.below (hcur.mono hB)) (Nat.le_trans hB hcur.size)).mono ?_; rintro e wn ⟨rfl, hbn⟩; rw [HDV.out]; have X := X.below hbn zl; have hcur := hcur.trans (hbn.mono (Nat.le_of_lt zl)); have zl := Nat.lt_of_lt_of_le zl hbn.size; have Xq := X; obtain ⟨a0, a1, a2, a3, a4, a5, a6, a7⟩ := Xq)
      | (go_at_call 161; with_reducible refine (conSq_any d.A d.c d.l B _ ((Ko.E_in hin).2.below (hcur.mono hB)) (Nat.le_trans hB hcur.size)).mono ?_; rintro e wn ⟨rfl, hbn⟩; rw [HSQ.out]; have X := X.below hbn zl; have hcur := hcur.trans (hbn.mono (Nat.le_of_lt zl)); have zl := Nat.lt_of_lt_of_le zl hbn.size; have Xq := X; obtain ⟨a0, a1, a2, a3, a4, a5, a6, a7⟩ := Xq))
    go_ret
    exact ⟨by first | exact ret_bool HS.out.symm | exact ret_bool (by have h := HS.out; rw [HSQ.out] at h; exact h.symm) | exact ret_bool (by rw [HS.out]; simp <;> omega), hcur⟩
end Go.Proofs.YtpigpncbjckbcaaGreat
namespace Go.Proofs.YtpigpncbjckbcaaGreat
open Go.RowKit
set_option maxRecDepth 100000 in
set_option maxHeartbeats 800000 in
theorem node6_any (d : Tr Ko) (B : Nat) (w : World) (hin : Ko.E.In w B d) (hB : B ≤ w.heap.size) (hsz : d.a.d.size ≤ 2000000) (hk : d.a.k = 6) : Calls Tryz.prog 258 #[Ko.val d] w fun e w' => e = .returned (.bool (d.a.node d.l.length (d.l.any isSq))) ∧ Below w.heap.size w w' := by
  have hd := (Ko.E_in hin).1.d
  obtain ⟨W, hW⟩ : ∃ W, W = w.alloc (.cells #[.int .i64 d.a.k, .int .i64 d.a.n, .slice d.a.sA d.a.s.length d.a.sC, .int .i64 d.a.d.k, .int .i64 d.a.d.n, .string d.a.d.t, .slice d.a.d.A d.a.d.l.length d.a.d.c, .slice d.A d.l.length d.c] 35) := ⟨_, rfl⟩
  have zW : W.heap.size = w.heap.size + 1 := by rw [hW]; simp
  have zl : w.heap.size < W.heap.size := by omega
  have hcur : Below w.heap.size w W := by rw [hW]; exact (Below.refl _ _).alloc (Nat.le_refl _) _
  have X : Ko.Box W w.heap.size d := by rw [hW]; exact Ko.Box.new _ _ _
  clear zW
  have d2 : ∀ z : Near W, z.at_.cell? ⟨w.heap.size, 2, none⟩ = some (.slice d.a.sA d.a.s.length d.a.sC) := fun z => z.cell 2 X.c2 zl
  have d7 : ∀ z : Near W, z.at_.cell? ⟨w.heap.size, 7, none⟩ = some (.slice d.A d.l.length d.c) := fun z => z.cell 7 X.c7 zl
  unfold Ko.val
  by_cases q0 : 1 ≤ (d.l.length : Int)
  · by_cases q1 : (d.l.length : Int) ≤ 9
    · have hS : d.a.node d.l.length (d.l.any isSq) = true := by simp [Ko.node, nKind, hk, q0, q1]
      have HS := Lib.hid hS
      clear hS
      have H_hk := Lib.hid hk
      have H_q0 := Lib.hid q0
      have H_q1 := Lib.hid q1
      clear hk q0 q1
      go_enter Tryz.func258, Tryz.ntmps258
      go_upto_region 1 with fail
      rw [← hW]
      clear hW
      refine wp_region_near (by kernel_rfl) (by kernel_rfl) ?_
      repeat (go_big_quiet_step (fail))
      refine wpQuiet_nil ?_
      intro _ hw1
      obtain ⟨nx, hw2⟩ := hw1
      subst hw2
      have hcur := hcur.trans (nx.below.mono (Nat.le_of_lt zl))
      have X := X.below nx.below zl
      have zl := Nat.lt_of_lt_of_le zl nx.below.size
      clear d2 d7
      have Xq := X
      obtain ⟨a0, a1, a2, a3, a4, a5, a6, a7⟩ := Xq
      have hk := H_hk.out
      have q0 := H_q0.out
      have q1 := H_q1.out
      go_wp2_with (first
        | (go_at_call 259; with_reducible refine (iIsD_u d B _ (hd.below (hcur.mono hB)) (Nat.le_trans hB hcur.size)).mono ?_; rintro e wn ⟨rfl, hbn⟩; rw [HDV.out]; have X := X.below hbn zl; have hcur := hcur.trans (hbn.mono (Nat.le_of_lt zl)); have zl := Nat.lt_of_lt_of_le zl hbn.size; have Xq := X; obtain ⟨a0, a1, a2, a3, a4, a5, a6, a7⟩ := Xq)
        | (go_at_call 161; with_reducible refine (conSq_any d.A d.c d.l B _ ((Ko.E_in hin).2.below (hcur.mono hB)) (Nat.le_trans hB hcur.size)).mono ?_; rintro e wn ⟨rfl, hbn⟩; rw [HSQ.out]; have X := X.below hbn zl; have hcur := hcur.trans (hbn.mono (Nat.le_of_lt zl)); have zl := Nat.lt_of_lt_of_le zl hbn.size; have Xq := X; obtain ⟨a0, a1, a2, a3, a4, a5, a6, a7⟩ := Xq))
      go_ret
      exact ⟨by first | exact ret_bool HS.out.symm | exact ret_bool (by have h := HS.out; rw [HSQ.out] at h; exact h.symm) | exact ret_bool (by rw [HS.out]; simp <;> omega), hcur⟩
    · have hS : d.a.node d.l.length (d.l.any isSq) = false := by simp [Ko.node, nKind, hk, q0, q1]
      have HS := Lib.hid hS
      clear hS
      have H_hk := Lib.hid hk
      have H_q0 := Lib.hid q0
      have H_q1 := Lib.hid q1
      clear hk q0 q1
      go_enter Tryz.func258, Tryz.ntmps258
      go_upto_region 1 with fail
      rw [← hW]
      clear hW
      refine wp_region_near (by kernel_rfl) (by kernel_rfl) ?_
      repeat (go_big_quiet_step (fail))
      refine wpQuiet_nil ?_
      intro _ hw1
      obtain ⟨nx, hw2⟩ := hw1
      subst hw2
      have hcur := hcur.trans (nx.below.mono (Nat.le_of_lt zl))
      have X := X.below nx.below zl
      have zl := Nat.lt_of_lt_of_le zl nx.below.size
      clear d2 d7
      have Xq := X
      obtain ⟨a0, a1, a2, a3, a4, a5, a6, a7⟩ := Xq
      have hk := H_hk.out
      have q0 := H_q0.out
      have q1 := H_q1.out
      go_wp2_with (first
        | (go_at_call 259; with_reducible refine (iIsD_u d B _ (hd.below (hcur.mono hB)) (Nat.le_trans hB hcur.size)).mono ?_; rintro e wn ⟨rfl, hbn⟩; rw [HDV.out]; have X := X.below hbn zl; have hcur := hcur.trans (hbn.mono (Nat.le_of_lt zl)); have zl := Nat.lt_of_lt_of_le zl hbn.size; have Xq := X; obtain ⟨a0, a1, a2, a3, a4, a5, a6, a7⟩ := Xq)
        | (go_at_call 161; with_reducible refine (conSq_any d.A d.c d.l B _ ((Ko.E_in hin).2.below (hcur.mono hB)) (Nat.le_trans hB hcur.size)).mono ?_; rintro e wn ⟨rfl, hbn⟩; rw [HSQ.out]; have X := X.below hbn zl; have hcur := hcur.trans (hbn.mono (Nat.le_of_lt zl)); have zl := Nat.lt_of_lt_of_le zl hbn.size; have Xq := X; obtain ⟨a0, a1, a2, a3, a4, a5, a6, a7⟩ := Xq))
      go_ret
      exact ⟨by first | exact ret_bool HS.out.symm | exact ret_bool (by have h := HS.out; rw [HSQ.out] at h; exact h.symm) | exact ret_bool (by rw [HS.out]; simp <;> omega), hcur⟩
  · have hS : d.a.node d.l.length (d.l.any isSq) = false := by simp [Ko.node, nKind, hk, q0]
    have HS := Lib.hid hS
    clear hS
    have H_hk := Lib.hid hk
    have H_q0 := Lib.hid q0
    clear hk q0
    go_enter Tryz.func258, Tryz.ntmps258
    go_upto_region 1 with fail
    rw [← hW]
    clear hW
    refine wp_region_near (by kernel_rfl) (by kernel_rfl) ?_
    repeat (go_big_quiet_step (fail))
    refine wpQuiet_nil ?_
    intro _ hw1
    obtain ⟨nx, hw2⟩ := hw1
    subst hw2
    have hcur := hcur.trans (nx.below.mono (Nat.le_of_lt zl))
    have X := X.below nx.below zl
    have zl := Nat.lt_of_lt_of_le zl nx.below.size
    clear d2 d7
    have Xq := X
    obtain ⟨a0, a1, a2, a3, a4, a5, a6, a7⟩ := Xq
    have hk := H_hk.out
    have q0 := H_q0.out
    go_wp2_with (first
      | (go_at_call 259; with_reducible refine (iIsD_u d B _ (hd.below (hcur.mono hB)) (Nat.le_trans hB hcur.size)).mono ?_; rintro e wn ⟨rfl, hbn⟩; rw [HDV.out]; have X := X.below hbn zl; have hcur := hcur.trans (hbn.mono (Nat.le_of_lt zl)); have zl := Nat.lt_of_lt_of_le zl hbn.size; have Xq := X; obtain ⟨a0, a1, a2, a3, a4, a5, a6, a7⟩ := Xq)
      | (go_at_call 161; with_reducible refine (conSq_any d.A d.c d.l B _ ((Ko.E_in hin).2.below (hcur.mono hB)) (Nat.le_trans hB hcur.size)).mono ?_; rintro e wn ⟨rfl, hbn⟩; rw [HSQ.out]; have X := X.below hbn zl; have hcur := hcur.trans (hbn.mono (Nat.le_of_lt zl)); have zl := Nat.lt_of_lt_of_le zl hbn.size; have Xq := X; obtain ⟨a0, a1, a2, a3, a4, a5, a6, a7⟩ := Xq))
    go_ret
    exact ⟨by first | exact ret_bool HS.out.symm | exact ret_bool (by have h := HS.out; rw [HSQ.out] at h; exact h.symm) | exact ret_bool (by rw [HS.out]; simp <;> omega), hcur⟩
set_option maxRecDepth 100000 in
set_option maxHeartbeats 800000 in
theorem node7_any (d : Tr Ko) (B : Nat) (w : World) (hin : Ko.E.In w B d) (hB : B ≤ w.heap.size) (hsz : d.a.d.size ≤ 2000000) (hk : d.a.k = 7) : Calls Tryz.prog 258 #[Ko.val d] w fun e w' => e = .returned (.bool (d.a.node d.l.length (d.l.any isSq))) ∧ Below w.heap.size w w' := by
  have hd := (Ko.E_in hin).1.d
  obtain ⟨W, hW⟩ : ∃ W, W = w.alloc (.cells #[.int .i64 d.a.k, .int .i64 d.a.n, .slice d.a.sA d.a.s.length d.a.sC, .int .i64 d.a.d.k, .int .i64 d.a.d.n, .string d.a.d.t, .slice d.a.d.A d.a.d.l.length d.a.d.c, .slice d.A d.l.length d.c] 35) := ⟨_, rfl⟩
  have zW : W.heap.size = w.heap.size + 1 := by rw [hW]; simp
  have zl : w.heap.size < W.heap.size := by omega
  have hcur : Below w.heap.size w W := by rw [hW]; exact (Below.refl _ _).alloc (Nat.le_refl _) _
  have X : Ko.Box W w.heap.size d := by rw [hW]; exact Ko.Box.new _ _ _
  clear zW
  have d2 : ∀ z : Near W, z.at_.cell? ⟨w.heap.size, 2, none⟩ = some (.slice d.a.sA d.a.s.length d.a.sC) := fun z => z.cell 2 X.c2 zl
  have d7 : ∀ z : Near W, z.at_.cell? ⟨w.heap.size, 7, none⟩ = some (.slice d.A d.l.length d.c) := fun z => z.cell 7 X.c7 zl
  unfold Ko.val
  cases q0 : ((d.l.length : Int) == 3)
  · have hS : d.a.node d.l.length (d.l.any isSq) = false := by simp [Ko.node, nKind, hk, q0]
    have HS := Lib.hid hS
    clear hS
    have H_hk := Lib.hid hk
    have H_q0 := Lib.hid q0
    clear hk q0
    go_enter Tryz.func258, Tryz.ntmps258
    go_upto_region 1 with fail
    rw [← hW]
    clear hW
    refine wp_region_near (by kernel_rfl) (by kernel_rfl) ?_
    repeat (go_big_quiet_step (fail))
    refine wpQuiet_nil ?_
    intro _ hw1
    obtain ⟨nx, hw2⟩ := hw1
    subst hw2
    have hcur := hcur.trans (nx.below.mono (Nat.le_of_lt zl))
    have X := X.below nx.below zl
    have zl := Nat.lt_of_lt_of_le zl nx.below.size
    clear d2 d7
    have Xq := X
    obtain ⟨a0, a1, a2, a3, a4, a5, a6, a7⟩ := Xq
    have hk := H_hk.out
    have q0 := H_q0.out
    go_wp2_with (first
      | (go_at_call 259; with_reducible refine (iIsD_u d B _ (hd.below (hcur.mono hB)) (Nat.le_trans hB hcur.size)).mono ?_; rintro e wn ⟨rfl, hbn⟩; rw [HDV.out]; have X := X.below hbn zl; have hcur := hcur.trans (hbn.mono (Nat.le_of_lt zl)); have zl := Nat.lt_of_lt_of_le zl hbn.size; have Xq := X; obtain ⟨a0, a1, a2, a3, a4, a5, a6, a7⟩ := Xq)
      | (go_at_call 161; with_reducible refine (conSq_any d.A d.c d.l B _ ((Ko.E_in hin).2.below (hcur.mono hB)) (Nat.le_trans hB hcur.size)).mono ?_; rintro e wn ⟨rfl, hbn⟩; rw [HSQ.out]; have X := X.below hbn zl; have hcur := hcur.trans (hbn.mono (Nat.le_of_lt zl)); have zl := Nat.lt_of_lt_of_le zl hbn.size; have Xq := X; obtain ⟨a0, a1, a2, a3, a4, a5, a6, a7⟩ := Xq))
    go_ret
    exact ⟨by first | exact ret_bool HS.out.symm | exact ret_bool (by have h := HS.out; rw [HSQ.out] at h; exact h.symm) | exact ret_bool (by rw [HS.out]; simp <;> omega), hcur⟩
  · have hS : d.a.node d.l.length (d.l.any isSq) = true := by simp [Ko.node, nKind, hk, q0]
    have HS := Lib.hid hS
    clear hS
    have H_hk := Lib.hid hk
    have H_q0 := Lib.hid q0
    clear hk q0
    go_enter Tryz.func258, Tryz.ntmps258
    go_upto_region 1 with fail
    rw [← hW]
    clear hW
    refine wp_region_near (by kernel_rfl) (by kernel_rfl) ?_
    repeat (go_big_quiet_step (fail))
    refine wpQuiet_nil ?_
    intro _ hw1
    obtain ⟨nx, hw2⟩ := hw1
    subst hw2
    have hcur := hcur.trans (nx.below.mono (Nat.le_of_lt zl))
    have X := X.below nx.below zl
    have zl := Nat.lt_of_lt_of_le zl nx.below.size
    clear d2 d7
    have Xq := X
    obtain ⟨a0, a1, a2, a3, a4, a5, a6, a7⟩ := Xq
    have hk := H_hk.out
    have q0 := H_q0.out
    go_wp2_with (first
      | (go_at_call 259; with_reducible refine (iIsD_u d B _ (hd.below (hcur.mono hB)) (Nat.le_trans hB hcur.size)).mono ?_; rintro e wn ⟨rfl, hbn⟩; rw [HDV.out]; have X := X.below hbn zl; have hcur := hcur.trans (hbn.mono (Nat.le_of_lt zl)); have zl := Nat.lt_of_lt_of_le zl hbn.size; have Xq := X; obtain ⟨a0, a1, a2, a3, a4, a5, a6, a7⟩ := Xq)
      | (go_at_call 161; with_reducible refine (conSq_any d.A d.c d.l B _ ((Ko.E_in hin).2.below (hcur.mono hB)) (Nat.le_trans hB hcur.size)).mono ?_; rintro e wn ⟨rfl, hbn⟩; rw [HSQ.out]; have X := X.below hbn zl; have hcur := hcur.trans (hbn.mono (Nat.le_of_lt zl)); have zl := Nat.lt_of_lt_of_le zl hbn.size; have Xq := X; obtain ⟨a0, a1, a2, a3, a4, a5, a6, a7⟩ := Xq))
    go_ret
    exact ⟨by first | exact ret_bool HS.out.symm | exact ret_bool (by have h := HS.out; rw [HSQ.out] at h; exact h.symm) | exact ret_bool (by rw [HS.out]; simp <;> omega), hcur⟩
set_option maxRecDepth 100000 in
set_option maxHeartbeats 800000 in
theorem node10_any (d : Tr Ko) (B : Nat) (w : World) (hin : Ko.E.In w B d) (hB : B ≤ w.heap.size) (hsz : d.a.d.size ≤ 2000000) (hk : d.a.k = 10) : Calls Tryz.prog 258 #[Ko.val d] w fun e w' => e = .returned (.bool (d.a.node d.l.length (d.l.any isSq))) ∧ Below w.heap.size w w' := by
  have hd := (Ko.E_in hin).1.d
  obtain ⟨W, hW⟩ : ∃ W, W = w.alloc (.cells #[.int .i64 d.a.k, .int .i64 d.a.n, .slice d.a.sA d.a.s.length d.a.sC, .int .i64 d.a.d.k, .int .i64 d.a.d.n, .string d.a.d.t, .slice d.a.d.A d.a.d.l.length d.a.d.c, .slice d.A d.l.length d.c] 35) := ⟨_, rfl⟩
  have zW : W.heap.size = w.heap.size + 1 := by rw [hW]; simp
  have zl : w.heap.size < W.heap.size := by omega
  have hcur : Below w.heap.size w W := by rw [hW]; exact (Below.refl _ _).alloc (Nat.le_refl _) _
  have X : Ko.Box W w.heap.size d := by rw [hW]; exact Ko.Box.new _ _ _
  clear zW
  have d2 : ∀ z : Near W, z.at_.cell? ⟨w.heap.size, 2, none⟩ = some (.slice d.a.sA d.a.s.length d.a.sC) := fun z => z.cell 2 X.c2 zl
  have d7 : ∀ z : Near W, z.at_.cell? ⟨w.heap.size, 7, none⟩ = some (.slice d.A d.l.length d.c) := fun z => z.cell 7 X.c7 zl
  unfold Ko.val
  cases q0 : ((d.l.length : Int) == 1)
  · have hS : d.a.node d.l.length (d.l.any isSq) = false := by simp [Ko.node, nKind, hk, q0]
    have HS := Lib.hid hS
    clear hS
    have H_hk := Lib.hid hk
    have H_q0 := Lib.hid q0
    clear hk q0
    go_enter Tryz.func258, Tryz.ntmps258
    go_upto_region 1 with fail
    rw [← hW]
    clear hW
    refine wp_region_near (by kernel_rfl) (by kernel_rfl) ?_
    repeat (go_big_quiet_step (fail))
    refine wpQuiet_nil ?_
    intro _ hw1
    obtain ⟨nx, hw2⟩ := hw1
    subst hw2
    have hcur := hcur.trans (nx.below.mono (Nat.le_of_lt zl))
    have X := X.below nx.below zl
    have zl := Nat.lt_of_lt_of_le zl nx.below.size
    clear d2 d7
    have Xq := X
    obtain ⟨a0, a1, a2, a3, a4, a5, a6, a7⟩ := Xq
    have hk := H_hk.out
    have q0 := H_q0.out
    go_wp2_with (first
      | (go_at_call 259; with_reducible refine (iIsD_u d B _ (hd.below (hcur.mono hB)) (Nat.le_trans hB hcur.size)).mono ?_; rintro e wn ⟨rfl, hbn⟩; rw [HDV.out]; have X := X.below hbn zl; have hcur := hcur.trans (hbn.mono (Nat.le_of_lt zl)); have zl := Nat.lt_of_lt_of_le zl hbn.size; have Xq := X; obtain ⟨a0, a1, a2, a3, a4, a5, a6, a7⟩ := Xq)
      | (go_at_call 161; with_reducible refine (conSq_any d.A d.c d.l B _ ((Ko.E_in hin).2.below (hcur.mono hB)) (Nat.le_trans hB hcur.size)).mono ?_; rintro e wn ⟨rfl, hbn⟩; rw [HSQ.out]; have X := X.below hbn zl; have hcur := hcur.trans (hbn.mono (Nat.le_of_lt zl)); have zl := Nat.lt_of_lt_of_le zl hbn.size; have Xq := X; obtain ⟨a0, a1, a2, a3, a4, a5, a6, a7⟩ := Xq))
    go_ret
    exact ⟨by first | exact ret_bool HS.out.symm | exact ret_bool (by have h := HS.out; rw [HSQ.out] at h; exact h.symm) | exact ret_bool (by rw [HS.out]; simp <;> omega), hcur⟩
  · have hS : d.a.node d.l.length (d.l.any isSq) = true := by simp [Ko.node, nKind, hk, q0]
    have HS := Lib.hid hS
    clear hS
    have H_hk := Lib.hid hk
    have H_q0 := Lib.hid q0
    clear hk q0
    go_enter Tryz.func258, Tryz.ntmps258
    go_upto_region 1 with fail
    rw [← hW]
    clear hW
    refine wp_region_near (by kernel_rfl) (by kernel_rfl) ?_
    repeat (go_big_quiet_step (fail))
    refine wpQuiet_nil ?_
    intro _ hw1
    obtain ⟨nx, hw2⟩ := hw1
    subst hw2
    have hcur := hcur.trans (nx.below.mono (Nat.le_of_lt zl))
    have X := X.below nx.below zl
    have zl := Nat.lt_of_lt_of_le zl nx.below.size
    clear d2 d7
    have Xq := X
    obtain ⟨a0, a1, a2, a3, a4, a5, a6, a7⟩ := Xq
    have hk := H_hk.out
    have q0 := H_q0.out
    go_wp2_with (first
      | (go_at_call 259; with_reducible refine (iIsD_u d B _ (hd.below (hcur.mono hB)) (Nat.le_trans hB hcur.size)).mono ?_; rintro e wn ⟨rfl, hbn⟩; rw [HDV.out]; have X := X.below hbn zl; have hcur := hcur.trans (hbn.mono (Nat.le_of_lt zl)); have zl := Nat.lt_of_lt_of_le zl hbn.size; have Xq := X; obtain ⟨a0, a1, a2, a3, a4, a5, a6, a7⟩ := Xq)
      | (go_at_call 161; with_reducible refine (conSq_any d.A d.c d.l B _ ((Ko.E_in hin).2.below (hcur.mono hB)) (Nat.le_trans hB hcur.size)).mono ?_; rintro e wn ⟨rfl, hbn⟩; rw [HSQ.out]; have X := X.below hbn zl; have hcur := hcur.trans (hbn.mono (Nat.le_of_lt zl)); have zl := Nat.lt_of_lt_of_le zl hbn.size; have Xq := X; obtain ⟨a0, a1, a2, a3, a4, a5, a6, a7⟩ := Xq))
    go_ret
    exact ⟨by first | exact ret_bool HS.out.symm | exact ret_bool (by have h := HS.out; rw [HSQ.out] at h; exact h.symm) | exact ret_bool (by rw [HS.out]; simp <;> omega), hcur⟩
set_option maxRecDepth 100000 in
set_option maxHeartbeats 800000 in
theorem node11_any (d : Tr Ko) (B : Nat) (w : World) (hin : Ko.E.In w B d) (hB : B ≤ w.heap.size) (hsz : d.a.d.size ≤ 2000000) (hk : d.a.k = 11) : Calls Tryz.prog 258 #[Ko.val d] w fun e w' => e = .returned (.bool (d.a.node d.l.length (d.l.any isSq))) ∧ Below w.heap.size w w' := by
  have hd := (Ko.E_in hin).1.d
  obtain ⟨W, hW⟩ : ∃ W, W = w.alloc (.cells #[.int .i64 d.a.k, .int .i64 d.a.n, .slice d.a.sA d.a.s.length d.a.sC, .int .i64 d.a.d.k, .int .i64 d.a.d.n, .string d.a.d.t, .slice d.a.d.A d.a.d.l.length d.a.d.c, .slice d.A d.l.length d.c] 35) := ⟨_, rfl⟩
  have zW : W.heap.size = w.heap.size + 1 := by rw [hW]; simp
  have zl : w.heap.size < W.heap.size := by omega
  have hcur : Below w.heap.size w W := by rw [hW]; exact (Below.refl _ _).alloc (Nat.le_refl _) _
  have X : Ko.Box W w.heap.size d := by rw [hW]; exact Ko.Box.new _ _ _
  clear zW
  have d2 : ∀ z : Near W, z.at_.cell? ⟨w.heap.size, 2, none⟩ = some (.slice d.a.sA d.a.s.length d.a.sC) := fun z => z.cell 2 X.c2 zl
  have d7 : ∀ z : Near W, z.at_.cell? ⟨w.heap.size, 7, none⟩ = some (.slice d.A d.l.length d.c) := fun z => z.cell 7 X.c7 zl
  unfold Ko.val
  cases q0 : ((d.a.s.length : Int) == 1)
  · have hS : d.a.node d.l.length (d.l.any isSq) = false := by simp [Ko.node, nKind, hk, q0]
    have HS := Lib.hid hS
    clear hS
    have H_hk := Lib.hid hk
    have H_q0 := Lib.hid q0
    clear hk q0
    go_enter Tryz.func258, Tryz.ntmps258
    go_upto_region 1 with fail
    rw [← hW]
    clear hW
    refine wp_region_near (by kernel_rfl) (by kernel_rfl) ?_
    repeat (go_big_quiet_step (fail))
    refine wpQuiet_nil ?_
    intro _ hw1
    obtain ⟨nx, hw2⟩ := hw1
    subst hw2
    have hcur := hcur.trans (nx.below.mono (Nat.le_of_lt zl))
    have X := X.below nx.below zl
    have zl := Nat.lt_of_lt_of_le zl nx.below.size
    clear d2 d7
    have Xq := X
    obtain ⟨a0, a1, a2, a3, a4, a5, a6, a7⟩ := Xq
    have hk := H_hk.out
    have q0 := H_q0.out
    go_wp2_with (first
      | (go_at_call 259; with_reducible refine (iIsD_u d B _ (hd.below (hcur.mono hB)) (Nat.le_trans hB hcur.size)).mono ?_; rintro e wn ⟨rfl, hbn⟩; rw [HDV.out]; have X := X.below hbn zl; have hcur := hcur.trans (hbn.mono (Nat.le_of_lt zl)); have zl := Nat.lt_of_lt_of_le zl hbn.size; have Xq := X; obtain ⟨a0, a1, a2, a3, a4, a5, a6, a7⟩ := Xq)
      | (go_at_call 161; with_reducible refine (conSq_any d.A d.c d.l B _ ((Ko.E_in hin).2.below (hcur.mono hB)) (Nat.le_trans hB hcur.size)).mono ?_; rintro e wn ⟨rfl, hbn⟩; rw [HSQ.out]; have X := X.below hbn zl; have hcur := hcur.trans (hbn.mono (Nat.le_of_lt zl)); have zl := Nat.lt_of_lt_of_le zl hbn.size; have Xq := X; obtain ⟨a0, a1, a2, a3, a4, a5, a6, a7⟩ := Xq))
    go_ret
    exact ⟨by first | exact ret_bool HS.out.symm | exact ret_bool (by have h := HS.out; rw [HSQ.out] at h; exact h.symm) | exact ret_bool (by rw [HS.out]; simp <;> omega), hcur⟩
  · cases q1 : ((d.l.length : Int) == 1)
    · have hS : d.a.node d.l.length (d.l.any isSq) = false := by simp [Ko.node, nKind, hk, q0, q1]
      have HS := Lib.hid hS
      clear hS
      have H_hk := Lib.hid hk
      have H_q0 := Lib.hid q0
      have H_q1 := Lib.hid q1
      clear hk q0 q1
      go_enter Tryz.func258, Tryz.ntmps258
      go_upto_region 1 with fail
      rw [← hW]
      clear hW
      refine wp_region_near (by kernel_rfl) (by kernel_rfl) ?_
      repeat (go_big_quiet_step (fail))
      refine wpQuiet_nil ?_
      intro _ hw1
      obtain ⟨nx, hw2⟩ := hw1
      subst hw2
      have hcur := hcur.trans (nx.below.mono (Nat.le_of_lt zl))
      have X := X.below nx.below zl
      have zl := Nat.lt_of_lt_of_le zl nx.below.size
      clear d2 d7
      have Xq := X
      obtain ⟨a0, a1, a2, a3, a4, a5, a6, a7⟩ := Xq
      have hk := H_hk.out
      have q0 := H_q0.out
      have q1 := H_q1.out
      go_wp2_with (first
        | (go_at_call 259; with_reducible refine (iIsD_u d B _ (hd.below (hcur.mono hB)) (Nat.le_trans hB hcur.size)).mono ?_; rintro e wn ⟨rfl, hbn⟩; rw [HDV.out]; have X := X.below hbn zl; have hcur := hcur.trans (hbn.mono (Nat.le_of_lt zl)); have zl := Nat.lt_of_lt_of_le zl hbn.size; have Xq := X; obtain ⟨a0, a1, a2, a3, a4, a5, a6, a7⟩ := Xq)
        | (go_at_call 161; with_reducible refine (conSq_any d.A d.c d.l B _ ((Ko.E_in hin).2.below (hcur.mono hB)) (Nat.le_trans hB hcur.size)).mono ?_; rintro e wn ⟨rfl, hbn⟩; rw [HSQ.out]; have X := X.below hbn zl; have hcur := hcur.trans (hbn.mono (Nat.le_of_lt zl)); have zl := Nat.lt_of_lt_of_le zl hbn.size; have Xq := X; obtain ⟨a0, a1, a2, a3, a4, a5, a6, a7⟩ := Xq))
      go_ret
      exact ⟨by first | exact ret_bool HS.out.symm | exact ret_bool (by have h := HS.out; rw [HSQ.out] at h; exact h.symm) | exact ret_bool (by rw [HS.out]; simp <;> omega), hcur⟩
    · have hS : d.a.node d.l.length (d.l.any isSq) = true := by simp [Ko.node, nKind, hk, q0, q1]
      have HS := Lib.hid hS
      clear hS
      have H_hk := Lib.hid hk
      have H_q0 := Lib.hid q0
      have H_q1 := Lib.hid q1
      clear hk q0 q1
      go_enter Tryz.func258, Tryz.ntmps258
      go_upto_region 1 with fail
      rw [← hW]
      clear hW
      refine wp_region_near (by kernel_rfl) (by kernel_rfl) ?_
      repeat (go_big_quiet_step (fail))
      refine wpQuiet_nil ?_
      intro _ hw1
      obtain ⟨nx, hw2⟩ := hw1
      subst hw2
      have hcur := hcur.trans (nx.below.mono (Nat.le_of_lt zl))
      have X := X.below nx.below zl
      have zl := Nat.lt_of_lt_of_le zl nx.below.size
      clear d2 d7
      have Xq := X
      obtain ⟨a0, a1, a2, a3, a4, a5, a6, a7⟩ := Xq
      have hk := H_hk.out
      have q0 := H_q0.out
      have q1 := H_q1.out
      go_wp2_with (first
        | (go_at_call 259; with_reducible refine (iIsD_u d B _ (hd.below (hcur.mono hB)) (Nat.le_trans hB hcur.size)).mono ?_; rintro e wn ⟨rfl, hbn⟩; rw [HDV.out]; have X := X.below hbn zl; have hcur := hcur.trans (hbn.mono (Nat.le_of_lt zl)); have zl := Nat.lt_of_lt_of_le zl hbn.size; have Xq := X; obtain ⟨a0, a1, a2, a3, a4, a5, a6, a7⟩ := Xq)
        | (go_at_call 161; with_reducible refine (conSq_any d.A d.c d.l B _ ((Ko.E_in hin).2.below (hcur.mono hB)) (Nat.le_trans hB hcur.size)).mono ?_; rintro e wn ⟨rfl, hbn⟩; rw [HSQ.out]; have X := X.below hbn zl; have hcur := hcur.trans (hbn.mono (Nat.le_of_lt zl)); have zl := Nat.lt_of_lt_of_le zl hbn.size; have Xq := X; obtain ⟨a0, a1, a2, a3, a4, a5, a6, a7⟩ := Xq))
      go_ret
      exact ⟨by first | exact ret_bool HS.out.symm | exact ret_bool (by have h := HS.out; rw [HSQ.out] at h; exact h.symm) | exact ret_bool (by rw [HS.out]; simp <;> omega), hcur⟩
end Go.Proofs.YtpigpncbjckbcaaGreat
namespace Go.Proofs.YtpigpncbjckbcaaGreat
open Go.RowKit
set_option maxRecDepth 100000 in
set_option maxHeartbeats 800000 in
theorem node8_any (d : Tr Ko) (B : Nat) (w : World) (hin : Ko.E.In w B d) (hB : B ≤ w.heap.size) (hsz : d.a.d.size ≤ 2000000) (hk : d.a.k = 8) : Calls Tryz.prog 258 #[Ko.val d] w fun e w' => e = .returned (.bool (d.a.node d.l.length (d.l.any isSq))) ∧ Below w.heap.size w w' := by
  have hd := (Ko.E_in hin).1.d
  obtain ⟨W, hW⟩ : ∃ W, W = w.alloc (.cells #[.int .i64 d.a.k, .int .i64 d.a.n, .slice d.a.sA d.a.s.length d.a.sC, .int .i64 d.a.d.k, .int .i64 d.a.d.n, .string d.a.d.t, .slice d.a.d.A d.a.d.l.length d.a.d.c, .slice d.A d.l.length d.c] 35) := ⟨_, rfl⟩
  have zW : W.heap.size = w.heap.size + 1 := by rw [hW]; simp
  have zl : w.heap.size < W.heap.size := by omega
  have hcur : Below w.heap.size w W := by rw [hW]; exact (Below.refl _ _).alloc (Nat.le_refl _) _
  have X : Ko.Box W w.heap.size d := by rw [hW]; exact Ko.Box.new _ _ _
  clear zW
  have d2 : ∀ z : Near W, z.at_.cell? ⟨w.heap.size, 2, none⟩ = some (.slice d.a.sA d.a.s.length d.a.sC) := fun z => z.cell 2 X.c2 zl
  have d7 : ∀ z : Near W, z.at_.cell? ⟨w.heap.size, 7, none⟩ = some (.slice d.A d.l.length d.c) := fun z => z.cell 7 X.c7 zl
  unfold Ko.val
  by_cases q0 : 2 ≤ (d.l.length : Int)
  · by_cases q1 : (d.l.length : Int) ≤ 60
    · cases q2 : d.l.any isSq
      · have HSQ : Hid (d.l.any isSq = false) := q2
        have hS : d.a.node d.l.length (d.l.any isSq) = true := by simp [Ko.node, nKind, hk, q0, q1, q2]
        have HS := Lib.hid hS
        clear hS
        have H_hk := Lib.hid hk
        have H_q0 := Lib.hid q0
        have H_q1 := Lib.hid q1
        have H_q2 := Lib.hid q2
        clear hk q0 q1 q2
        go_enter Tryz.func258, Tryz.ntmps258
        go_upto_region 1 with fail
        rw [← hW]
        clear hW
        refine wp_region_near (by kernel_rfl) (by kernel_rfl) ?_
        repeat (go_big_quiet_step (fail))
        refine wpQuiet_nil ?_
        intro _ hw1
        obtain ⟨nx, hw2⟩ := hw1
        subst hw2
        have hcur := hcur.trans (nx.below.mono (Nat.le_of_lt zl))
        have X := X.below nx.below zl
        have zl := Nat.lt_of_lt_of_le zl nx.below.size
        clear d2 d7
        have Xq := X
        obtain ⟨a0, a1, a2, a3, a4, a5, a6, a7⟩ := Xq
        have hk := H_hk.out
        have q0 := H_q0.out
        have q1 := H_q1.out
        go_wp2_with (first
          | (go_at_call 259; with_reducible refine (iIsD_u d B _ (hd.below (hcur.mono hB)) (Nat.le_trans hB hcur.size)).mono ?_; rintro e wn ⟨rfl, hbn⟩; rw [HDV.out]; have X := X.below hbn zl; have hcur := hcur.trans (hbn.mono (Nat.le_of_lt zl)); have zl := Nat.lt_of_lt_of_le zl hbn.size; have Xq := X; obtain ⟨a0, a1, a2, a3, a4, a5, a6, a7⟩ := Xq)
          | (go_at_call 161; with_reducible refine (conSq_any d.A d.c d.l B _ ((Ko.E_in hin).2.below (hcur.mono hB)) (Nat.le_trans hB hcur.size)).mono ?_; rintro e wn ⟨rfl, hbn⟩; rw [HSQ.out]; have X := X.below hbn zl; have hcur := hcur.trans (hbn.mono (Nat.le_of_lt zl)); have zl := Nat.lt_of_lt_of_le zl hbn.size; have Xq := X; obtain ⟨a0, a1, a2, a3, a4, a5, a6, a7⟩ := Xq))
        go_ret
        exact ⟨by first | exact ret_bool HS.out.symm | exact ret_bool (by have h := HS.out; rw [HSQ.out] at h; exact h.symm) | exact ret_bool (by rw [HS.out]; simp <;> omega), hcur⟩
      · have HSQ : Hid (d.l.any isSq = true) := q2
        have hS : d.a.node d.l.length (d.l.any isSq) = false := by simp [Ko.node, nKind, hk, q0, q1, q2]
        have HS := Lib.hid hS
        clear hS
        have H_hk := Lib.hid hk
        have H_q0 := Lib.hid q0
        have H_q1 := Lib.hid q1
        have H_q2 := Lib.hid q2
        clear hk q0 q1 q2
        go_enter Tryz.func258, Tryz.ntmps258
        go_upto_region 1 with fail
        rw [← hW]
        clear hW
        refine wp_region_near (by kernel_rfl) (by kernel_rfl) ?_
        repeat (go_big_quiet_step (fail))
        refine wpQuiet_nil ?_
        intro _ hw1
        obtain ⟨nx, hw2⟩ := hw1
        subst hw2
        have hcur := hcur.trans (nx.below.mono (Nat.le_of_lt zl))
        have X := X.below nx.below zl
        have zl := Nat.lt_of_lt_of_le zl nx.below.size
        clear d2 d7
        have Xq := X
        obtain ⟨a0, a1, a2, a3, a4, a5, a6, a7⟩ := Xq
        have hk := H_hk.out
        have q0 := H_q0.out
        have q1 := H_q1.out
        go_wp2_with (first
          | (go_at_call 259; with_reducible refine (iIsD_u d B _ (hd.below (hcur.mono hB)) (Nat.le_trans hB hcur.size)).mono ?_; rintro e wn ⟨rfl, hbn⟩; rw [HDV.out]; have X := X.below hbn zl; have hcur := hcur.trans (hbn.mono (Nat.le_of_lt zl)); have zl := Nat.lt_of_lt_of_le zl hbn.size; have Xq := X; obtain ⟨a0, a1, a2, a3, a4, a5, a6, a7⟩ := Xq)
          | (go_at_call 161; with_reducible refine (conSq_any d.A d.c d.l B _ ((Ko.E_in hin).2.below (hcur.mono hB)) (Nat.le_trans hB hcur.size)).mono ?_; rintro e wn ⟨rfl, hbn⟩; rw [HSQ.out]; have X := X.below hbn zl; have hcur := hcur.trans (hbn.mono (Nat.le_of_lt zl)); have zl := Nat.lt_of_lt_of_le zl hbn.size; have Xq := X; obtain ⟨a0, a1, a2, a3, a4, a5, a6, a7⟩ := Xq))
        go_ret
        exact ⟨by first | exact ret_bool HS.out.symm | exact ret_bool (by have h := HS.out; rw [HSQ.out] at h; exact h.symm) | exact ret_bool (by rw [HS.out]; simp <;> omega), hcur⟩
    · have hS : d.a.node d.l.length (d.l.any isSq) = false := by simp [Ko.node, nKind, hk, q0, q1]
      have HS := Lib.hid hS
      clear hS
      have H_hk := Lib.hid hk
      have H_q0 := Lib.hid q0
      have H_q1 := Lib.hid q1
      clear hk q0 q1
      go_enter Tryz.func258, Tryz.ntmps258
      go_upto_region 1 with fail
      rw [← hW]
      clear hW
      refine wp_region_near (by kernel_rfl) (by kernel_rfl) ?_
      repeat (go_big_quiet_step (fail))
      refine wpQuiet_nil ?_
      intro _ hw1
      obtain ⟨nx, hw2⟩ := hw1
      subst hw2
      have hcur := hcur.trans (nx.below.mono (Nat.le_of_lt zl))
      have X := X.below nx.below zl
      have zl := Nat.lt_of_lt_of_le zl nx.below.size
      clear d2 d7
      have Xq := X
      obtain ⟨a0, a1, a2, a3, a4, a5, a6, a7⟩ := Xq
      have hk := H_hk.out
      have q0 := H_q0.out
      have q1 := H_q1.out
      go_wp2_with (first
        | (go_at_call 259; with_reducible refine (iIsD_u d B _ (hd.below (hcur.mono hB)) (Nat.le_trans hB hcur.size)).mono ?_; rintro e wn ⟨rfl, hbn⟩; rw [HDV.out]; have X := X.below hbn zl; have hcur := hcur.trans (hbn.mono (Nat.le_of_lt zl)); have zl := Nat.lt_of_lt_of_le zl hbn.size; have Xq := X; obtain ⟨a0, a1, a2, a3, a4, a5, a6, a7⟩ := Xq)
        | (go_at_call 161; with_reducible refine (conSq_any d.A d.c d.l B _ ((Ko.E_in hin).2.below (hcur.mono hB)) (Nat.le_trans hB hcur.size)).mono ?_; rintro e wn ⟨rfl, hbn⟩; rw [HSQ.out]; have X := X.below hbn zl; have hcur := hcur.trans (hbn.mono (Nat.le_of_lt zl)); have zl := Nat.lt_of_lt_of_le zl hbn.size; have Xq := X; obtain ⟨a0, a1, a2, a3, a4, a5, a6, a7⟩ := Xq))
      go_ret
      exact ⟨by first | exact ret_bool HS.out.symm | exact ret_bool (by have h := HS.out; rw [HSQ.out] at h; exact h.symm) | exact ret_bool (by rw [HS.out]; simp <;> omega), hcur⟩
  · have hS : d.a.node d.l.length (d.l.any isSq) = false := by simp [Ko.node, nKind, hk, q0]
    have HS := Lib.hid hS
    clear hS
    have H_hk := Lib.hid hk
    have H_q0 := Lib.hid q0
    clear hk q0
    go_enter Tryz.func258, Tryz.ntmps258
    go_upto_region 1 with fail
    rw [← hW]
    clear hW
    refine wp_region_near (by kernel_rfl) (by kernel_rfl) ?_
    repeat (go_big_quiet_step (fail))
    refine wpQuiet_nil ?_
    intro _ hw1
    obtain ⟨nx, hw2⟩ := hw1
    subst hw2
    have hcur := hcur.trans (nx.below.mono (Nat.le_of_lt zl))
    have X := X.below nx.below zl
    have zl := Nat.lt_of_lt_of_le zl nx.below.size
    clear d2 d7
    have Xq := X
    obtain ⟨a0, a1, a2, a3, a4, a5, a6, a7⟩ := Xq
    have hk := H_hk.out
    have q0 := H_q0.out
    go_wp2_with (first
      | (go_at_call 259; with_reducible refine (iIsD_u d B _ (hd.below (hcur.mono hB)) (Nat.le_trans hB hcur.size)).mono ?_; rintro e wn ⟨rfl, hbn⟩; rw [HDV.out]; have X := X.below hbn zl; have hcur := hcur.trans (hbn.mono (Nat.le_of_lt zl)); have zl := Nat.lt_of_lt_of_le zl hbn.size; have Xq := X; obtain ⟨a0, a1, a2, a3, a4, a5, a6, a7⟩ := Xq)
      | (go_at_call 161; with_reducible refine (conSq_any d.A d.c d.l B _ ((Ko.E_in hin).2.below (hcur.mono hB)) (Nat.le_trans hB hcur.size)).mono ?_; rintro e wn ⟨rfl, hbn⟩; rw [HSQ.out]; have X := X.below hbn zl; have hcur := hcur.trans (hbn.mono (Nat.le_of_lt zl)); have zl := Nat.lt_of_lt_of_le zl hbn.size; have Xq := X; obtain ⟨a0, a1, a2, a3, a4, a5, a6, a7⟩ := Xq))
    go_ret
    exact ⟨by first | exact ret_bool HS.out.symm | exact ret_bool (by have h := HS.out; rw [HSQ.out] at h; exact h.symm) | exact ret_bool (by rw [HS.out]; simp <;> omega), hcur⟩
set_option maxRecDepth 100000 in
set_option maxHeartbeats 800000 in
theorem node9_any (d : Tr Ko) (B : Nat) (w : World) (hin : Ko.E.In w B d) (hB : B ≤ w.heap.size) (hsz : d.a.d.size ≤ 2000000) (hk : d.a.k = 9) : Calls Tryz.prog 258 #[Ko.val d] w fun e w' => e = .returned (.bool (d.a.node d.l.length (d.l.any isSq))) ∧ Below w.heap.size w w' := by
  have hd := (Ko.E_in hin).1.d
  obtain ⟨W, hW⟩ : ∃ W, W = w.alloc (.cells #[.int .i64 d.a.k, .int .i64 d.a.n, .slice d.a.sA d.a.s.length d.a.sC, .int .i64 d.a.d.k, .int .i64 d.a.d.n, .string d.a.d.t, .slice d.a.d.A d.a.d.l.length d.a.d.c, .slice d.A d.l.length d.c] 35) := ⟨_, rfl⟩
  have zW : W.heap.size = w.heap.size + 1 := by rw [hW]; simp
  have zl : w.heap.size < W.heap.size := by omega
  have hcur : Below w.heap.size w W := by rw [hW]; exact (Below.refl _ _).alloc (Nat.le_refl _) _
  have X : Ko.Box W w.heap.size d := by rw [hW]; exact Ko.Box.new _ _ _
  clear zW
  have d2 : ∀ z : Near W, z.at_.cell? ⟨w.heap.size, 2, none⟩ = some (.slice d.a.sA d.a.s.length d.a.sC) := fun z => z.cell 2 X.c2 zl
  have d7 : ∀ z : Near W, z.at_.cell? ⟨w.heap.size, 7, none⟩ = some (.slice d.A d.l.length d.c) := fun z => z.cell 7 X.c7 zl
  unfold Ko.val
  by_cases q0 : 1 ≤ (d.a.s.length : Int)
  · by_cases q1 : (d.a.s.length : Int) ≤ 60
    · by_cases q2 : 1 ≤ (d.l.length : Int)
      · by_cases q3 : (d.l.length : Int) ≤ 60
        · have hS : d.a.node d.l.length (d.l.any isSq) = true := by simp [Ko.node, nKind, hk, q0, q1, q2, q3]
          have HS := Lib.hid hS
          clear hS
          have H_hk := Lib.hid hk
          have H_q0 := Lib.hid q0
          have H_q1 := Lib.hid q1
          have H_q2 := Lib.hid q2
          have H_q3 := Lib.hid q3
          clear hk q0 q1 q2 q3
          go_enter Tryz.func258, Tryz.ntmps258
          go_upto_region 1 with fail
          rw [← hW]
          clear hW
          refine wp_region_near (by kernel_rfl) (by kernel_rfl) ?_
          repeat (go_big_quiet_step (fail))
          refine wpQuiet_nil ?_
          intro _ hw1
          obtain ⟨nx, hw2⟩ := hw1
          subst hw2
          have hcur := hcur.trans (nx.below.mono (Nat.le_of_lt zl))
          have X := X.below nx.below zl
          have zl := Nat.lt_of_lt_of_le zl nx.below.size
          clear d2 d7
          have Xq := X
          obtain ⟨a0, a1, a2, a3, a4, a5, a6, a7⟩ := Xq
          have hk := H_hk.out
          have q0 := H_q0.out
          have q1 := H_q1.out
          have q2 := H_q2.out
          have q3 := H_q3.out
          go_wp2_with (first
            | (go_at_call 259; with_reducible refine (iIsD_u d B _ (hd.below (hcur.mono hB)) (Nat.le_trans hB hcur.size)).mono ?_; rintro e wn ⟨rfl, hbn⟩; rw [HDV.out]; have X := X.below hbn zl; have hcur := hcur.trans (hbn.mono (Nat.le_of_lt zl)); have zl := Nat.lt_of_lt_of_le zl hbn.size; have Xq := X; obtain ⟨a0, a1, a2, a3, a4, a5, a6, a7⟩ := Xq)
            | (go_at_call 161; with_reducible refine (conSq_any d.A d.c d.l B _ ((Ko.E_in hin).2.below (hcur.mono hB)) (Nat.le_trans hB hcur.size)).mono ?_; rintro e wn ⟨rfl, hbn⟩; rw [HSQ.out]; have X := X.below hbn zl; have hcur := hcur.trans (hbn.mono (Nat.le_of_lt zl)); have zl := Nat.lt_of_lt_of_le zl hbn.size; have Xq := X; obtain ⟨a0, a1, a2, a3, a4, a5, a6, a7⟩ := Xq))
          go_ret
          exact ⟨by first | exact ret_bool HS.out.symm | exact ret_bool (by have h := HS.out; rw [HSQ.out] at h; exact h.symm) | exact ret_bool (by rw [HS.out]; simp <;> omega), hcur⟩
        · have hS : d.a.node d.l.length (d.l.any isSq) = false := by simp [Ko.node, nKind, hk, q0, q1, q2, q3]
          have HS := Lib.hid hS
          clear hS
          have H_hk := Lib.hid hk
          have H_q0 := Lib.hid q0
          have H_q1 := Lib.hid q1
          have H_q2 := Lib.hid q2
          have H_q3 := Lib.hid q3
          clear hk q0 q1 q2 q3
          go_enter Tryz.func258, Tryz.ntmps258
          go_upto_region 1 with fail
          rw [← hW]
          clear hW
          refine wp_region_near (by kernel_rfl) (by kernel_rfl) ?_
          repeat (go_big_quiet_step (fail))
          refine wpQuiet_nil ?_
          intro _ hw1
          obtain ⟨nx, hw2⟩ := hw1
          subst hw2
          have hcur := hcur.trans (nx.below.mono (Nat.le_of_lt zl))
          have X := X.below nx.below zl
          have zl := Nat.lt_of_lt_of_le zl nx.below.size
          clear d2 d7
          have Xq := X
          obtain ⟨a0, a1, a2, a3, a4, a5, a6, a7⟩ := Xq
          have hk := H_hk.out
          have q0 := H_q0.out
          have q1 := H_q1.out
          have q2 := H_q2.out
          have q3 := H_q3.out
          go_wp2_with (first
            | (go_at_call 259; with_reducible refine (iIsD_u d B _ (hd.below (hcur.mono hB)) (Nat.le_trans hB hcur.size)).mono ?_; rintro e wn ⟨rfl, hbn⟩; rw [HDV.out]; have X := X.below hbn zl; have hcur := hcur.trans (hbn.mono (Nat.le_of_lt zl)); have zl := Nat.lt_of_lt_of_le zl hbn.size; have Xq := X; obtain ⟨a0, a1, a2, a3, a4, a5, a6, a7⟩ := Xq)
            | (go_at_call 161; with_reducible refine (conSq_any d.A d.c d.l B _ ((Ko.E_in hin).2.below (hcur.mono hB)) (Nat.le_trans hB hcur.size)).mono ?_; rintro e wn ⟨rfl, hbn⟩; rw [HSQ.out]; have X := X.below hbn zl; have hcur := hcur.trans (hbn.mono (Nat.le_of_lt zl)); have zl := Nat.lt_of_lt_of_le zl hbn.size; have Xq := X; obtain ⟨a0, a1, a2, a3, a4, a5, a6, a7⟩ := Xq))
          go_ret
          exact ⟨by first | exact ret_bool HS.out.symm | exact ret_bool (by have h := HS.out; rw [HSQ.out] at h; exact h.symm) | exact ret_bool (by rw [HS.out]; simp <;> omega), hcur⟩
      · have hS : d.a.node d.l.length (d.l.any isSq) = false := by simp [Ko.node, nKind, hk, q0, q1, q2]
        have HS := Lib.hid hS
        clear hS
        have H_hk := Lib.hid hk
        have H_q0 := Lib.hid q0
        have H_q1 := Lib.hid q1
        have H_q2 := Lib.hid q2
        clear hk q0 q1 q2
        go_enter Tryz.func258, Tryz.ntmps258
        go_upto_region 1 with fail
        rw [← hW]
        clear hW
        refine wp_region_near (by kernel_rfl) (by kernel_rfl) ?_
        repeat (go_big_quiet_step (fail))
        refine wpQuiet_nil ?_
        intro _ hw1
        obtain ⟨nx, hw2⟩ := hw1
        subst hw2
        have hcur := hcur.trans (nx.below.mono (Nat.le_of_lt zl))
        have X := X.below nx.below zl
        have zl := Nat.lt_of_lt_of_le zl nx.below.size
        clear d2 d7
        have Xq := X
        obtain ⟨a0, a1, a2, a3, a4, a5, a6, a7⟩ := Xq
        have hk := H_hk.out
        have q0 := H_q0.out
        have q1 := H_q1.out
        have q2 := H_q2.out
        go_wp2_with (first
          | (go_at_call 259; with_reducible refine (iIsD_u d B _ (hd.below (hcur.mono hB)) (Nat.le_trans hB hcur.size)).mono ?_; rintro e wn ⟨rfl, hbn⟩; rw [HDV.out]; have X := X.below hbn zl; have hcur := hcur.trans (hbn.mono (Nat.le_of_lt zl)); have zl := Nat.lt_of_lt_of_le zl hbn.size; have Xq := X; obtain ⟨a0, a1, a2, a3, a4, a5, a6, a7⟩ := Xq)
          | (go_at_call 161; with_reducible refine (conSq_any d.A d.c d.l B _ ((Ko.E_in hin).2.below (hcur.mono hB)) (Nat.le_trans hB hcur.size)).mono ?_; rintro e wn ⟨rfl, hbn⟩; rw [HSQ.out]; have X := X.below hbn zl; have hcur := hcur.trans (hbn.mono (Nat.le_of_lt zl)); have zl := Nat.lt_of_lt_of_le zl hbn.size; have Xq := X; obtain ⟨a0, a1, a2, a3, a4, a5, a6, a7⟩ := Xq))
        go_ret
        exact ⟨by first | exact ret_bool HS.out.symm | exact ret_bool (by have h := HS.out; rw [HSQ.out] at h; exact h.symm) | exact ret_bool (by rw [HS.out]; simp <;> omega), hcur⟩
    · have hS : d.a.node d.l.length (d.l.any isSq) = false := by simp [Ko.node, nKind, hk, q0, q1]
      have HS := Lib.hid hS
      clear hS
      have H_hk := Lib.hid hk
      have H_q0 := Lib.hid q0
      have H_q1 := Lib.hid q1
      clear hk q0 q1
      go_enter Tryz.func258, Tryz.ntmps258
      go_upto_region 1 with fail
      rw [← hW]
      clear hW
      refine wp_region_near (by kernel_rfl) (by kernel_rfl) ?_
      repeat (go_big_quiet_step (fail))
      refine wpQuiet_nil ?_
      intro _ hw1
      obtain ⟨nx, hw2⟩ := hw1
      subst hw2
      have hcur := hcur.trans (nx.below.mono (Nat.le_of_lt zl))
      have X := X.below nx.below zl
      have zl := Nat.lt_of_lt_of_le zl nx.below.size
      clear d2 d7
      have Xq := X
      obtain ⟨a0, a1, a2, a3, a4, a5, a6, a7⟩ := Xq
      have hk := H_hk.out
      have q0 := H_q0.out
      have q1 := H_q1.out
      go_wp2_with (first
        | (go_at_call 259; with_reducible refine (iIsD_u d B _ (hd.below (hcur.mono hB)) (Nat.le_trans hB hcur.size)).mono ?_; rintro e wn ⟨rfl, hbn⟩; rw [HDV.out]; have X := X.below hbn zl; have hcur := hcur.trans (hbn.mono (Nat.le_of_lt zl)); have zl := Nat.lt_of_lt_of_le zl hbn.size; have Xq := X; obtain ⟨a0, a1, a2, a3, a4, a5, a6, a7⟩ := Xq)
        | (go_at_call 161; with_reducible refine (conSq_any d.A d.c d.l B _ ((Ko.E_in hin).2.below (hcur.mono hB)) (Nat.le_trans hB hcur.size)).mono ?_; rintro e wn ⟨rfl, hbn⟩; rw [HSQ.out]; have X := X.below hbn zl; have hcur := hcur.trans (hbn.mono (Nat.le_of_lt zl)); have zl := Nat.lt_of_lt_of_le zl hbn.size; have Xq := X; obtain ⟨a0, a1, a2, a3, a4, a5, a6, a7⟩ := Xq))
      go_ret
      exact ⟨by first | exact ret_bool HS.out.symm | exact ret_bool (by have h := HS.out; rw [HSQ.out] at h; exact h.symm) | exact ret_bool (by rw [HS.out]; simp <;> omega), hcur⟩
  · have hS : d.a.node d.l.length (d.l.any isSq) = false := by simp [Ko.node, nKind, hk, q0]
    have HS := Lib.hid hS
    clear hS
    have H_hk := Lib.hid hk
    have H_q0 := Lib.hid q0
    clear hk q0
    go_enter Tryz.func258, Tryz.ntmps258
    go_upto_region 1 with fail
    rw [← hW]
    clear hW
    refine wp_region_near (by kernel_rfl) (by kernel_rfl) ?_
    repeat (go_big_quiet_step (fail))
    refine wpQuiet_nil ?_
    intro _ hw1
    obtain ⟨nx, hw2⟩ := hw1
    subst hw2
    have hcur := hcur.trans (nx.below.mono (Nat.le_of_lt zl))
    have X := X.below nx.below zl
    have zl := Nat.lt_of_lt_of_le zl nx.below.size
    clear d2 d7
    have Xq := X
    obtain ⟨a0, a1, a2, a3, a4, a5, a6, a7⟩ := Xq
    have hk := H_hk.out
    have q0 := H_q0.out
    go_wp2_with (first
      | (go_at_call 259; with_reducible refine (iIsD_u d B _ (hd.below (hcur.mono hB)) (Nat.le_trans hB hcur.size)).mono ?_; rintro e wn ⟨rfl, hbn⟩; rw [HDV.out]; have X := X.below hbn zl; have hcur := hcur.trans (hbn.mono (Nat.le_of_lt zl)); have zl := Nat.lt_of_lt_of_le zl hbn.size; have Xq := X; obtain ⟨a0, a1, a2, a3, a4, a5, a6, a7⟩ := Xq)
      | (go_at_call 161; with_reducible refine (conSq_any d.A d.c d.l B _ ((Ko.E_in hin).2.below (hcur.mono hB)) (Nat.le_trans hB hcur.size)).mono ?_; rintro e wn ⟨rfl, hbn⟩; rw [HSQ.out]; have X := X.below hbn zl; have hcur := hcur.trans (hbn.mono (Nat.le_of_lt zl)); have zl := Nat.lt_of_lt_of_le zl hbn.size; have Xq := X; obtain ⟨a0, a1, a2, a3, a4, a5, a6, a7⟩ := Xq))
    go_ret
    exact ⟨by first | exact ret_bool HS.out.symm | exact ret_bool (by have h := HS.out; rw [HSQ.out] at h; exact h.symm) | exact ret_bool (by rw [HS.out]; simp <;> omega), hcur⟩
end Go.Proofs.YtpigpncbjckbcaaGreat
namespace Go.Proofs.YtpigpncbjckbcaaGreat
open Go.RowKit
set_option maxRecDepth 100000 in
set_option maxHeartbeats 800000 in
theorem nodeX_any (d : Tr Ko) (B : Nat) (w : World) (hin : Ko.E.In w B d) (hB : B ≤ w.heap.size) (hsz : d.a.d.size ≤ 2000000) (hk : d.a.k ≠ 1 ∧ d.a.k ≠ 2 ∧ d.a.k ≠ 3 ∧ d.a.k ≠ 4 ∧ d.a.k ≠ 5 ∧ d.a.k ≠ 6 ∧ d.a.k ≠ 7 ∧ d.a.k ≠ 8 ∧ d.a.k ≠ 9 ∧ d.a.k ≠ 10 ∧ d.a.k ≠ 11) : Calls Tryz.prog 258 #[Ko.val d] w fun e w' => e = .returned (.bool (d.a.node d.l.length (d.l.any isSq))) ∧ Below w.heap.size w w' := by
  have hd := (Ko.E_in hin).1.d
  obtain ⟨W, hW⟩ : ∃ W, W = w.alloc (.cells #[.int .i64 d.a.k, .int .i64 d.a.n, .slice d.a.sA d.a.s.length d.a.sC, .int .i64 d.a.d.k, .int .i64 d.a.d.n, .string d.a.d.t, .slice d.a.d.A d.a.d.l.length d.a.d.c, .slice d.A d.l.length d.c] 35) := ⟨_, rfl⟩
  have zW : W.heap.size = w.heap.size + 1 := by rw [hW]; simp
  have zl : w.heap.size < W.heap.size := by omega
  have hcur : Below w.heap.size w W := by rw [hW]; exact (Below.refl _ _).alloc (Nat.le_refl _) _
  have X : Ko.Box W w.heap.size d := by rw [hW]; exact Ko.Box.new _ _ _
  clear zW
  obtain ⟨k1, k2, k3, k4, k5, k6, k7, k8, k9, k10, k11⟩ := hk
  have d2 : ∀ z : Near W, z.at_.cell? ⟨w.heap.size, 2, none⟩ = some (.slice d.a.sA d.a.s.length d.a.sC) := fun z => z.cell 2 X.c2 zl
  have d7 : ∀ z : Near W, z.at_.cell? ⟨w.heap.size, 7, none⟩ = some (.slice d.A d.l.length d.c) := fun z => z.cell 7 X.c7 zl
  unfold Ko.val
  have hS : d.a.node d.l.length (d.l.any isSq) = false := by simp [Ko.node, nKind, k1, k2, k3, k4, k5, k6, k7, k8, k9, k10, k11]
  have HS := Lib.hid hS
  have j1 : (d.a.k == 1) = false := by simp [k1]
  have j2 : (d.a.k == 2) = false := by simp [k2]
  have j3 : (d.a.k == 3) = false := by simp [k3]
  have j4 : (d.a.k == 4) = false := by simp [k4]
  have j5 : (d.a.k == 5) = false := by simp [k5]
  have j6 : (d.a.k == 6) = false := by simp [k6]
  have j7 : (d.a.k == 7) = false := by simp [k7]
  have j8 : (d.a.k == 8) = false := by simp [k8]
  have j9 : (d.a.k == 9) = false := by simp [k9]
  have j10 : (d.a.k == 10) = false := by simp [k10]
  have j11 : (d.a.k == 11) = false := by simp [k11]
  clear hS k1 k2 k3 k4 k5 k6 k7 k8 k9 k10 k11
  go_enter Tryz.func258, Tryz.ntmps258
  go_upto_region 1 with fail
  rw [← hW]
  clear hW
  refine wp_region_near (by kernel_rfl) (by kernel_rfl) ?_
  repeat (go_big_quiet_step (fail))
  refine wpQuiet_nil ?_
  intro _ hw1
  obtain ⟨nx, hw2⟩ := hw1
  subst hw2
  have hcur := hcur.trans (nx.below.mono (Nat.le_of_lt zl))
  have X := X.below nx.below zl
  clear d2 d7
  obtain ⟨a0, a1, a2, a3, a4, a5, a6, a7⟩ := X
  go_wp2_with fail
  go_ret
  exact ⟨ret_bool HS.out.symm, hcur⟩
set_option maxRecDepth 100000 in
set_option maxHeartbeats 800000 in
theorem ownX_any (d : Tr Ko) (B : Nat) (w : World) (hin : Ko.E.In w B d) (hB : B ≤ w.heap.size) (hsz : d.a.d.size ≤ 2000000) (hk : d.a.k ≠ 1 ∧ d.a.k ≠ 2 ∧ d.a.k ≠ 3 ∧ d.a.k ≠ 4 ∧ d.a.k ≠ 5 ∧ d.a.k ≠ 6 ∧ d.a.k ≠ 7 ∧ d.a.k ≠ 8 ∧ d.a.k ≠ 9 ∧ d.a.k ≠ 10 ∧ d.a.k ≠ 11) : Calls Tryz.prog 257 #[Ko.val d] w fun e w' => e = .returned (.bool d.a.own) ∧ Below w.heap.size w w' := by
  have hd := (Ko.E_in hin).1.d
  obtain ⟨W, hW⟩ : ∃ W, W = w.alloc (.cells #[.int .i64 d.a.k, .int .i64 d.a.n, .slice d.a.sA d.a.s.length d.a.sC, .int .i64 d.a.d.k, .int .i64 d.a.d.n, .string d.a.d.t, .slice d.a.d.A d.a.d.l.length d.a.d.c, .slice d.A d.l.length d.c] 35) := ⟨_, rfl⟩
  have zW : W.heap.size = w.heap.size + 1 := by rw [hW]; simp
  have zl : w.heap.size < W.heap.size := by omega
  have hcur : Below w.heap.size w W := by rw [hW]; exact (Below.refl _ _).alloc (Nat.le_refl _) _
  have X : Ko.Box W w.heap.size d := by rw [hW]; exact Ko.Box.new _ _ _
  clear zW
  obtain ⟨k1, k2, k3, k4, k5, k6, k7, k8, k9, k10, k11⟩ := hk
  have HV : Hid (d.a.isVar = false) := by show _ = _; unfold Ko.isVar; simp [k2, k4]
  have HNM : Hid (∀ w' : World, Calls Tryz.prog 174 #[.agg #[.int .i64 d.a.k, .int .i64 d.a.n, .slice d.a.sA d.a.s.length d.a.sC, .int .i64 d.a.d.k, .int .i64 d.a.d.n, .string d.a.d.t, .slice d.a.d.A d.a.d.l.length d.a.d.c, .slice d.A d.l.length d.c]] w' fun e w'' => e = .returned (.bool d.a.isVar) ∧ Below w'.heap.size w' w'') := fun w' => implVar_u d w'
  unfold Ko.val
  have Xq := X
  obtain ⟨a0, a1, a2, a3, a4, a5, a6, a7⟩ := Xq
  have j1 : (d.a.k == 1) = false := by simp [k1]
  have i1 : (d.a.k != 1) = true := by unfold bne; rw [j1]; rfl
  have j3 : (d.a.k == 3) = false := by simp [k3]
  have i3 : (d.a.k != 3) = true := by unfold bne; rw [j3]; rfl
  have j5 : (d.a.k == 5) = false := by simp [k5]
  have i5 : (d.a.k != 5) = true := by unfold bne; rw [j5]; rfl
  have j9 : (d.a.k == 9) = false := by simp [k9]
  have i9 : (d.a.k != 9) = true := by unfold bne; rw [j9]; rfl
  have j11 : (d.a.k == 11) = false := by simp [k11]
  have i11 : (d.a.k != 11) = true := by unfold bne; rw [j11]; rfl
  cases qn : (d.a.n == 0)
  · have qn2 : (d.a.n != 0) = true := by unfold bne; rw [qn]; rfl
    have hS : d.a.own = false := by simp [Ko.own, Ko.isVar, k1, k2, k3, k4, k5, k6, k7, k8, k9, k10, k11, qn]
    have HS := Lib.hid hS
    clear hS
    have H_j1 := Lib.hid j1
    have H_i1 := Lib.hid i1
    have H_j3 := Lib.hid j3
    have H_i3 := Lib.hid i3
    have H_j5 := Lib.hid j5
    have H_i5 := Lib.hid i5
    have H_j9 := Lib.hid j9
    have H_i9 := Lib.hid i9
    have H_j11 := Lib.hid j11
    have H_i11 := Lib.hid i11
    have H_qn := Lib.hid qn
    have H_qn2 := Lib.hid qn2
    clear j1 i1 j3 i3 j5 i5 j9 i9 j11 i11 qn qn2 k1 k2 k3 k4 k5 k6 k7 k8 k9 k10 k11
    go_enter Tryz.func257, Tryz.ntmps257
    go_upto_region 1 with fail
    rw [← hW]
    clear hW
    have j1 := H_j1.out
    have i1 := H_i1.out
    have j3 := H_j3.out
    have i3 := H_i3.out
    have j5 := H_j5.out
    have i5 := H_i5.out
    have j9 := H_j9.out
    have i9 := H_i9.out
    have j11 := H_j11.out
    have i11 := H_i11.out
    have qn := H_qn.out
    have qn2 := H_qn2.out
    go_wp2_with (first
      | (go_at_call 174; with_reducible refine (HNM.out _).mono ?_; rintro e wn ⟨rfl, hbn⟩; rw [HV.out]; have X := X.below hbn zl; have hcur := hcur.trans (hbn.mono (Nat.le_of_lt zl)); have zl := Nat.lt_of_lt_of_le zl hbn.size; have Xq := X; obtain ⟨a0, a1, a2, a3, a4, a5, a6, a7⟩ := Xq)
      | (go_at_call 280; with_reducible refine (ieqz_any d B _ (hd.below (hcur.mono hB)) (Nat.le_trans hB hcur.size)).mono ?_; rintro e wn ⟨rfl, hbn⟩; rw [HDZ.out]; have X := X.below hbn zl; have hcur := hcur.trans (hbn.mono (Nat.le_of_lt zl)); have zl := Nat.lt_of_lt_of_le zl hbn.size; have Xq := X; obtain ⟨a0, a1, a2, a3, a4, a5, a6, a7⟩ := Xq))
    go_ret
    exact ⟨by first | exact ret_bool HS.out.symm | exact ret_bool (by rw [HS.out]; simp), hcur⟩
  · have qn2 : (d.a.n != 0) = false := by unfold bne; rw [qn]; rfl
    by_cases qp : (0 : Int) < (d.a.s.length : Int)
    · have qp0 : ((d.a.s.length : Int) == 0) = false := len_pos_beq qp
      have hS : d.a.own = false := by simp [Ko.own, Ko.isVar, k1, k2, k3, k4, k5, k6, k7, k8, k9, k10, k11, qn, qp, qp0]
      have HS := Lib.hid hS
      clear hS
      have H_j1 := Lib.hid j1
      have H_i1 := Lib.hid i1
      have H_j3 := Lib.hid j3
      have H_i3 := Lib.hid i3
      have H_j5 := Lib.hid j5
      have H_i5 := Lib.hid i5
      have H_j9 := Lib.hid j9
      have H_i9 := Lib.hid i9
      have H_j11 := Lib.hid j11
      have H_i11 := Lib.hid i11
      have H_qn := Lib.hid qn
      have H_qp := Lib.hid qp
      have H_qp0 := Lib.hid qp0
      have H_qn2 := Lib.hid qn2
      clear j1 i1 j3 i3 j5 i5 j9 i9 j11 i11 qn qp qp0 qn2 k1 k2 k3 k4 k5 k6 k7 k8 k9 k10 k11
      go_enter Tryz.func257, Tryz.ntmps257
      go_upto_region 1 with fail
      rw [← hW]
      clear hW
      have j1 := H_j1.out
      have i1 := H_i1.out
      have j3 := H_j3.out
      have i3 := H_i3.out
      have j5 := H_j5.out
      have i5 := H_i5.out
      have j9 := H_j9.out
      have i9 := H_i9.out
      have j11 := H_j11.out
      have i11 := H_i11.out
      have qn := H_qn.out
      have qp := H_qp.out
      have qp0 := H_qp0.out
      have qn2 := H_qn2.out
      go_wp2_with (first
        | (go_at_call 174; with_reducible refine (HNM.out _).mono ?_; rintro e wn ⟨rfl, hbn⟩; rw [HV.out]; have X := X.below hbn zl; have hcur := hcur.trans (hbn.mono (Nat.le_of_lt zl)); have zl := Nat.lt_of_lt_of_le zl hbn.size; have Xq := X; obtain ⟨a0, a1, a2, a3, a4, a5, a6, a7⟩ := Xq)
        | (go_at_call 280; with_reducible refine (ieqz_any d B _ (hd.below (hcur.mono hB)) (Nat.le_trans hB hcur.size)).mono ?_; rintro e wn ⟨rfl, hbn⟩; rw [HDZ.out]; have X := X.below hbn zl; have hcur := hcur.trans (hbn.mono (Nat.le_of_lt zl)); have zl := Nat.lt_of_lt_of_le zl hbn.size; have Xq := X; obtain ⟨a0, a1, a2, a3, a4, a5, a6, a7⟩ := Xq))
      go_ret
      exact ⟨by first | exact ret_bool HS.out.symm | exact ret_bool (by rw [HS.out]; simp), hcur⟩
    · have qp0 : ((d.a.s.length : Int) == 0) = true := len_zero_beq qp
      cases qz : d.a.dz
      · have HDZ : Hid (D.eqB d.a.d zeroD = false) := qz
        have hS : d.a.own = false := by simp [Ko.own, Ko.isVar, k1, k2, k3, k4, k5, k6, k7, k8, k9, k10, k11, qn, qp, qp0, qz]
        have HS := Lib.hid hS
        clear hS
        have H_j1 := Lib.hid j1
        have H_i1 := Lib.hid i1
        have H_j3 := Lib.hid j3
        have H_i3 := Lib.hid i3
        have H_j5 := Lib.hid j5
        have H_i5 := Lib.hid i5
        have H_j9 := Lib.hid j9
        have H_i9 := Lib.hid i9
        have H_j11 := Lib.hid j11
        have H_i11 := Lib.hid i11
        have H_qn := Lib.hid qn
        have H_qp := Lib.hid qp
        have H_qp0 := Lib.hid qp0
        have H_qz := Lib.hid qz
        have H_qn2 := Lib.hid qn2
        clear j1 i1 j3 i3 j5 i5 j9 i9 j11 i11 qn qp qp0 qz qn2 k1 k2 k3 k4 k5 k6 k7 k8 k9 k10 k11
        go_enter Tryz.func257, Tryz.ntmps257
        go_upto_region 1 with fail
        rw [← hW]
        clear hW
        have j1 := H_j1.out
        have i1 := H_i1.out
        have j3 := H_j3.out
        have i3 := H_i3.out
        have j5 := H_j5.out
        have i5 := H_i5.out
        have j9 := H_j9.out
        have i9 := H_i9.out
        have j11 := H_j11.out
        have i11 := H_i11.out
        have qn := H_qn.out
        have qp := H_qp.out
        have qp0 := H_qp0.out
        have qz := H_qz.out
        have qn2 := H_qn2.out
        go_wp2_with (first
          | (go_at_call 174; with_reducible refine (HNM.out _).mono ?_; rintro e wn ⟨rfl, hbn⟩; rw [HV.out]; have X := X.below hbn zl; have hcur := hcur.trans (hbn.mono (Nat.le_of_lt zl)); have zl := Nat.lt_of_lt_of_le zl hbn.size; have Xq := X; obtain ⟨a0, a1, a2, a3, a4, a5, a6, a7⟩ := Xq)
          | (go_at_call 280; with_reducible refine (ieqz_any d B _ (hd.below (hcur.mono hB)) (Nat.le_trans hB hcur.size)).mono ?_; rintro e wn ⟨rfl, hbn⟩; rw [HDZ.out]; have X := X.below hbn zl; have hcur := hcur.trans (hbn.mono (Nat.le_of_lt zl)); have zl := Nat.lt_of_lt_of_le zl hbn.size; have Xq := X; obtain ⟨a0, a1, a2, a3, a4, a5, a6, a7⟩ := Xq))
        go_ret
        exact ⟨by first | exact ret_bool HS.out.symm | exact ret_bool (by rw [HS.out]; simp), hcur⟩
      · have HDZ : Hid (D.eqB d.a.d zeroD = true) := qz
        have hS : d.a.own = true := by simp [Ko.own, Ko.isVar, k1, k2, k3, k4, k5, k6, k7, k8, k9, k10, k11, qn, qp, qp0, qz]
        have HS := Lib.hid hS
        clear hS
        have H_j1 := Lib.hid j1
        have H_i1 := Lib.hid i1
        have H_j3 := Lib.hid j3
        have H_i3 := Lib.hid i3
        have H_j5 := Lib.hid j5
        have H_i5 := Lib.hid i5
        have H_j9 := Lib.hid j9
        have H_i9 := Lib.hid i9
        have H_j11 := Lib.hid j11
        have H_i11 := Lib.hid i11
        have H_qn := Lib.hid qn
        have H_qp := Lib.hid qp
        have H_qp0 := Lib.hid qp0
        have H_qz := Lib.hid qz
        have H_qn2 := Lib.hid qn2
        clear j1 i1 j3 i3 j5 i5 j9 i9 j11 i11 qn qp qp0 qz qn2 k1 k2 k3 k4 k5 k6 k7 k8 k9 k10 k11
        go_enter Tryz.func257, Tryz.ntmps257
        go_upto_region 1 with fail
        rw [← hW]
        clear hW
        have j1 := H_j1.out
        have i1 := H_i1.out
        have j3 := H_j3.out
        have i3 := H_i3.out
        have j5 := H_j5.out
        have i5 := H_i5.out
        have j9 := H_j9.out
        have i9 := H_i9.out
        have j11 := H_j11.out
        have i11 := H_i11.out
        have qn := H_qn.out
        have qp := H_qp.out
        have qp0 := H_qp0.out
        have qz := H_qz.out
        have qn2 := H_qn2.out
        go_wp2_with (first
          | (go_at_call 174; with_reducible refine (HNM.out _).mono ?_; rintro e wn ⟨rfl, hbn⟩; rw [HV.out]; have X := X.below hbn zl; have hcur := hcur.trans (hbn.mono (Nat.le_of_lt zl)); have zl := Nat.lt_of_lt_of_le zl hbn.size; have Xq := X; obtain ⟨a0, a1, a2, a3, a4, a5, a6, a7⟩ := Xq)
          | (go_at_call 280; with_reducible refine (ieqz_any d B _ (hd.below (hcur.mono hB)) (Nat.le_trans hB hcur.size)).mono ?_; rintro e wn ⟨rfl, hbn⟩; rw [HDZ.out]; have X := X.below hbn zl; have hcur := hcur.trans (hbn.mono (Nat.le_of_lt zl)); have zl := Nat.lt_of_lt_of_le zl hbn.size; have Xq := X; obtain ⟨a0, a1, a2, a3, a4, a5, a6, a7⟩ := Xq))
        go_ret
        exact ⟨by first | exact ret_bool HS.out.symm | exact ret_bool (by rw [HS.out]; simp), hcur⟩
set_option maxRecDepth 100000 in
set_option maxHeartbeats 800000 in
theorem node3_any (d : Tr Ko) (B : Nat) (w : World) (hin : Ko.E.In w B d) (hB : B ≤ w.heap.size) (hsz : d.a.d.size ≤ 2000000) (hk : d.a.k = 3) : Calls Tryz.prog 258 #[Ko.val d] w fun e w' => e = .returned (.bool (d.a.node d.l.length (d.l.any isSq))) ∧ Below w.heap.size w w' := by
  have hd := (Ko.E_in hin).1.d
  obtain ⟨W, hW⟩ : ∃ W, W = w.alloc (.cells #[.int .i64 d.a.k, .int .i64 d.a.n, .slice d.a.sA d.a.s.length d.a.sC, .int .i64 d.a.d.k, .int .i64 d.a.d.n, .string d.a.d.t, .slice d.a.d.A d.a.d.l.length d.a.d.c, .slice d.A d.l.length d.c] 35) := ⟨_, rfl⟩
  have zW : W.heap.size = w.heap.size + 1 := by rw [hW]; simp
  have zl : w.heap.size < W.heap.size := by omega
  have hcur : Below w.heap.size w W := by rw [hW]; exact (Below.refl _ _).alloc (Nat.le_refl _) _
  have X : Ko.Box W w.heap.size d := by rw [hW]; exact Ko.Box.new _ _ _
  clear zW
  have d2 : ∀ z : Near W, z.at_.cell? ⟨w.heap.size, 2, none⟩ = some (.slice d.a.sA d.a.s.length d.a.sC) := fun z => z.cell 2 X.c2 zl
  have d7 : ∀ z : Near W, z.at_.cell? ⟨w.heap.size, 7, none⟩ = some (.slice d.A d.l.length d.c) := fun z => z.cell 7 X.c7 zl
  unfold Ko.val
  cases q0 : ((d.l.length : Int) == 0)
  · have hS : d.a.node d.l.length (d.l.any isSq) = false := by simp [Ko.node, nKind, hk, q0]
    have HS := Lib.hid hS
    clear hS
    have H_hk := Lib.hid hk
    have H_q0 := Lib.hid q0
    clear hk q0
    go_enter Tryz.func258, Tryz.ntmps258
    go_upto_region 1 with fail
    rw [← hW]
    clear hW
    refine wp_region_near (by kernel_rfl) (by kernel_rfl) ?_
    repeat (go_big_quiet_step (fail))
    refine wpQuiet_nil ?_
    intro _ hw1
    obtain ⟨nx, hw2⟩ := hw1
    subst hw2
    have hcur := hcur.trans (nx.below.mono (Nat.le_of_lt zl))
    have X := X.below nx.below zl
    have zl := Nat.lt_of_lt_of_le zl nx.below.size
    clear d2 d7
    have Xq := X
    obtain ⟨a0, a1, a2, a3, a4, a5, a6, a7⟩ := Xq
    have d1 : ∀ z : Near nx.at_, z.at_.cell? ⟨w.heap.size, 1, none⟩ = some (.int .i64 d.a.n) := fun z => z.cell 1 a1 zl
    have hk := H_hk.out
    go_wp2_with fail
    have q0 := H_q0.out
    refine wp_region_near (by kernel_rfl) (by kernel_rfl) ?_
    repeat (go_big_quiet_step (fail))
    refine wpQuiet_nil ?_
    intro _ hw1
    obtain ⟨ny, hw2⟩ := hw1
    subst hw2
    have hcur := hcur.trans (ny.below.mono (Nat.le_of_lt zl))
    go_wp2_with fail
    go_ret
    exact ⟨by first | exact ret_bool HS.out.symm | exact ret_bool (by rw [HS.out]; simp; omega), hcur⟩
  · by_cases q1 : 0 ≤ d.a.n
    · by_cases q2 : d.a.n < 14
      · have hS : d.a.node d.l.length (d.l.any isSq) = true := by simp [Ko.node, nKind, hk, q0, q1, q2]
        have HS := Lib.hid hS
        clear hS
        have H_hk := Lib.hid hk
        have H_q0 := Lib.hid q0
        have H_q1 := Lib.hid q1
        have H_q2 := Lib.hid q2
        clear hk q0 q1 q2
        go_enter Tryz.func258, Tryz.ntmps258
        go_upto_region 1 with fail
        rw [← hW]
        clear hW
        refine wp_region_near (by kernel_rfl) (by kernel_rfl) ?_
        repeat (go_big_quiet_step (fail))
        refine wpQuiet_nil ?_
        intro _ hw1
        obtain ⟨nx, hw2⟩ := hw1
        subst hw2
        have hcur := hcur.trans (nx.below.mono (Nat.le_of_lt zl))
        have X := X.below nx.below zl
        have zl := Nat.lt_of_lt_of_le zl nx.below.size
        clear d2 d7
        have Xq := X
        obtain ⟨a0, a1, a2, a3, a4, a5, a6, a7⟩ := Xq
        have h0 : d.l.length = 0 := by have := eq_of_beq H_q0.out; omega
        rw [h0] at a7
        rw [h0]
        clear h0
        have hk := H_hk.out
        go_wp2_with fail
        have hge : decide ((0 : Int) ≤ d.a.n) = true := decide_eq_true H_q1.out
        go_region_held3 (fun w' => w'.cell? ⟨w.heap.size, 1, none⟩ = some (.int .i64 d.a.n)) (go_keep) (first | (go_at_call 263; with_reducible refine (iprimN_b _).mono ?_; rintro e wn ⟨Ap, cp, rfl, hbn⟩; obtain ⟨hcur, hcell⟩ := drew_cur hcur hbn zl; have p1 := hcell 1 _ a1))
        have q2 := H_q2.out
        all_goals go_wp2_with fail
        all_goals go_ret
        all_goals exact ⟨by first | exact ret_bool HS.out.symm | exact ret_bool (by rw [HS.out]; simp; omega), by first | exact hcur | exact hcur.drew⟩
      · have hS : d.a.node d.l.length (d.l.any isSq) = false := by simp [Ko.node, nKind, hk, q0, q1, q2]
        have HS := Lib.hid hS
        clear hS
        have H_hk := Lib.hid hk
        have H_q0 := Lib.hid q0
        have H_q1 := Lib.hid q1
        have H_q2 := Lib.hid q2
        clear hk q0 q1 q2
        go_enter Tryz.func258, Tryz.ntmps258
        go_upto_region 1 with fail
        rw [← hW]
        clear hW
        refine wp_region_near (by kernel_rfl) (by kernel_rfl) ?_
        repeat (go_big_quiet_step (fail))
        refine wpQuiet_nil ?_
        intro _ hw1
        obtain ⟨nx, hw2⟩ := hw1
        subst hw2
        have hcur := hcur.trans (nx.below.mono (Nat.le_of_lt zl))
        have X := X.below nx.below zl
        have zl := Nat.lt_of_lt_of_le zl nx.below.size
        clear d2 d7
        have Xq := X
        obtain ⟨a0, a1, a2, a3, a4, a5, a6, a7⟩ := Xq
        have h0 : d.l.length = 0 := by have := eq_of_beq H_q0.out; omega
        rw [h0] at a7
        rw [h0]
        clear h0
        have hk := H_hk.out
        go_wp2_with fail
        have hge : decide ((0 : Int) ≤ d.a.n) = true := decide_eq_true H_q1.out
        go_region_held3 (fun w' => w'.cell? ⟨w.heap.size, 1, none⟩ = some (.int .i64 d.a.n)) (go_keep) (first | (go_at_call 263; with_reducible refine (iprimN_b _).mono ?_; rintro e wn ⟨Ap, cp, rfl, hbn⟩; obtain ⟨hcur, hcell⟩ := drew_cur hcur hbn zl; have p1 := hcell 1 _ a1))
        have q2 := H_q2.out
        all_goals go_wp2_with fail
        all_goals go_ret
        all_goals exact ⟨by first | exact ret_bool HS.out.symm | exact ret_bool (by rw [HS.out]; simp; omega), by first | exact hcur | exact hcur.drew⟩
    · have hS : d.a.node d.l.length (d.l.any isSq) = false := by simp [Ko.node, nKind, hk, q0, q1]
      have HS := Lib.hid hS
      clear hS
      have H_hk := Lib.hid hk
      have H_q0 := Lib.hid q0
      have H_q1 := Lib.hid q1
      clear hk q0 q1
      go_enter Tryz.func258, Tryz.ntmps258
      go_upto_region 1 with fail
      rw [← hW]
      clear hW
      refine wp_region_near (by kernel_rfl) (by kernel_rfl) ?_
      repeat (go_big_quiet_step (fail))
      refine wpQuiet_nil ?_
      intro _ hw1
      obtain ⟨nx, hw2⟩ := hw1
      subst hw2
      have hcur := hcur.trans (nx.below.mono (Nat.le_of_lt zl))
      have X := X.below nx.below zl
      have zl := Nat.lt_of_lt_of_le zl nx.below.size
      clear d2 d7
      have Xq := X
      obtain ⟨a0, a1, a2, a3, a4, a5, a6, a7⟩ := Xq
      have d1 : ∀ z : Near nx.at_, z.at_.cell? ⟨w.heap.size, 1, none⟩ = some (.int .i64 d.a.n) := fun z => z.cell 1 a1 zl
      have hk := H_hk.out
      go_wp2_with fail
      have q0 := H_q0.out
      have q1 := H_q1.out
      have q1d : decide ((0 : Int) ≤ d.a.n) = false := decide_eq_false (by omega)
      refine wp_region_near (by kernel_rfl) (by kernel_rfl) ?_
      repeat (go_big_quiet_step (fail))
      refine wpQuiet_nil ?_
      intro _ hw1
      obtain ⟨ny, hw2⟩ := hw1
      subst hw2
      have hcur := hcur.trans (ny.below.mono (Nat.le_of_lt zl))
      go_wp2_with fail
      go_ret
      exact ⟨by first | exact ret_bool HS.out.symm | exact ret_bool (by rw [HS.out]; simp; omega), hcur⟩
end Go.Proofs.YtpigpncbjckbcaaGreat
