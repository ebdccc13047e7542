/-
  The closures of the primitives' rules (written by gen/app.py).
-/
import Derived.Test.YtnldlbglgalbaabPqA
import Derived.Test.YtnldlbglgalbaabArA
namespace Go.Proofs.Ytnldlbglgalbaab
open Go.RowKit
set_option maxRecDepth 100000 in
set_option maxHeartbeats 4000000 in
theorem numberValue_any (n : Int) (w : World) : Calls Try.prog 50 #[.int .i64 n] w fun e w' => e = .returned (.agg #[.int .i64 3, .int .i64 (n), .string ⟨#[]⟩]) ∧ Below w.heap.size w w' := by
  go_enter Try.func50, Try.ntmps50
  go_wp2_with fail
  obtain ⟨W1, hW1⟩ : ∃ W1, W1 = w.alloc (.cells #[.int .i64 3, .int .i64 (n), .string ⟨#[]⟩] 27) := ⟨_, rfl⟩
  rw [← hW1]
  have B1 : Below w.heap.size w W1 := by rw [hW1]; exact (Below.refl _ _).alloc (Nat.le_refl _) _
  have R0 : D.Blk W1 w.heap.size 27 #[.int .i64 3, .int .i64 (n), .string ⟨#[]⟩] := by rw [hW1]; exact D.Blk.new _ _ _
  have r0 := R0.cell 0
  have r1 := R0.cell 1
  have r2 := R0.cell 2
  clear hW1
  refine bodyPost_ret (v := .agg #[.int .i64 3, .int .i64 (n), .string ⟨#[]⟩]) (by simp [results, Try.results50, go_sem, r0, r1, r2]) rfl ⟨rfl, B1⟩
set_option maxRecDepth 100000 in
set_option maxHeartbeats 4000000 in
theorem booleanT_any  (w : World) : Calls Try.prog 54 #[.bool true] w fun e w' => e = .returned (.agg #[.int .i64 2, .int .i64 1, .string ⟨#[]⟩]) ∧ Below w.heap.size w w' := by
  go_enter Try.func54, Try.ntmps54
  go_wp2_with fail
  obtain ⟨W1, hW1⟩ : ∃ W1, W1 = w.alloc (.cells #[.int .i64 2, .int .i64 1, .string ⟨#[]⟩] 27) := ⟨_, rfl⟩
  rw [← hW1]
  have B1 : Below w.heap.size w W1 := by rw [hW1]; exact (Below.refl _ _).alloc (Nat.le_refl _) _
  have R0 : D.Blk W1 w.heap.size 27 #[.int .i64 2, .int .i64 1, .string ⟨#[]⟩] := by rw [hW1]; exact D.Blk.new _ _ _
  have r0 := R0.cell 0
  have r1 := R0.cell 1
  have r2 := R0.cell 2
  clear hW1
  refine bodyPost_ret (v := .agg #[.int .i64 2, .int .i64 1, .string ⟨#[]⟩]) (by simp [results, Try.results54, go_sem, r0, r1, r2]) rfl ⟨rfl, B1⟩
set_option maxRecDepth 100000 in
set_option maxHeartbeats 4000000 in
theorem booleanF_any  (w : World) : Calls Try.prog 54 #[.bool false] w fun e w' => e = .returned (.agg #[.int .i64 2, .int .i64 0, .string ⟨#[]⟩]) ∧ Below w.heap.size w w' := by
  go_enter Try.func54, Try.ntmps54
  go_wp2_with fail
  obtain ⟨W1, hW1⟩ : ∃ W1, W1 = w.alloc (.cells #[.int .i64 2, .int .i64 0, .string ⟨#[]⟩] 27) := ⟨_, rfl⟩
  rw [← hW1]
  have B1 : Below w.heap.size w W1 := by rw [hW1]; exact (Below.refl _ _).alloc (Nat.le_refl _) _
  have R0 : D.Blk W1 w.heap.size 27 #[.int .i64 2, .int .i64 0, .string ⟨#[]⟩] := by rw [hW1]; exact D.Blk.new _ _ _
  have r0 := R0.cell 0
  have r1 := R0.cell 1
  have r2 := R0.cell 2
  clear hW1
  refine bodyPost_ret (v := .agg #[.int .i64 2, .int .i64 0, .string ⟨#[]⟩]) (by simp [results, Try.results54, go_sem, r0, r1, r2]) rfl ⟨rfl, B1⟩
theorem booleanValue_any (b : Bool) (w : World) : Calls Try.prog 54 #[.bool b] w fun e w' => e = .returned (.agg #[.int .i64 2, .int .i64 (if b = true then 1 else 0), .string ⟨#[]⟩]) ∧ Below w.heap.size w w' := by
  cases b
  · exact booleanF_any w
  · exact booleanT_any w
set_option maxRecDepth 100000 in
set_option maxHeartbeats 4000000 in
theorem op1_any (a b : Int) (ha : -999999999 ≤ a ∧ a ≤ 999999999) (hb : -999999999 ≤ b ∧ b ≤ 999999999) (w : World) : Calls Try.prog 49 #[.int .i64 a, .int .i64 b] w fun e w' => e = .returned (.agg #[.int .i64 3, .int .i64 (a + b), .string ⟨#[]⟩]) ∧ Below w.heap.size w w' := by
  obtain ⟨W1, hW1⟩ : ∃ W1, W1 = w.alloc (.cells #[.int .i64 0, .int .i64 0, .string ⟨#[]⟩] 27) := ⟨_, rfl⟩
  have B1 : Below w.heap.size w W1 := by rw [hW1]; exact (Below.refl _ _).alloc (Nat.le_refl _) _
  have z1 : w.heap.size < W1.heap.size := by rw [hW1]; simp
  have R0 : D.Blk W1 w.heap.size 27 #[.int .i64 0, .int .i64 0, .string ⟨#[]⟩] := by rw [hW1]; exact D.Blk.new _ _ _
  have HC := Lib.hid (numberValue_any (a + b) W1)
  go_enter Try.func49, Try.ntmps49
  go_upto_region 1 with fail
  rw [← hW1]
  clear hW1
  go_wp2_with fail
  refine HC.out.mono ?_
  rintro e w2 ⟨rfl, hb2⟩
  have R2 := R0.below hb2 z1
  have r0 : World.cell? w2 ⟨w.heap.size, 0, none⟩ = some (.int .i64 0) := R2.cell 0
  have r1 : World.cell? w2 ⟨w.heap.size, 1, none⟩ = some (.int .i64 0) := R2.cell 1
  have r2 : World.cell? w2 ⟨w.heap.size, 2, none⟩ = some (.string ⟨#[]⟩) := R2.cell 2
  have g0 := R2.frozen 0
  have g1 := R2.frozen 1
  have g2 := R2.frozen 2
  have b2 := B1.trans (hb2.mono (by omega))
  clear R0 R2 HC
  go_wp2_with fail
  refine bodyPost_ret (v := .agg #[.int .i64 3, .int .i64 (a + b), .string ⟨#[]⟩]) (by simp [results, Try.results49, go_sem, r0, r1, r2]) rfl ⟨rfl, ?_⟩
  exact ((b2.setCell (by simp) _).setCell (by simp) _).setCell (by simp) _
set_option maxRecDepth 100000 in
set_option maxHeartbeats 4000000 in
theorem op2_any (a b : Int) (ha : -999999999 ≤ a ∧ a ≤ 999999999) (hb : -999999999 ≤ b ∧ b ≤ 999999999) (w : World) : Calls Try.prog 51 #[.int .i64 a, .int .i64 b] w fun e w' => e = .returned (.agg #[.int .i64 3, .int .i64 (a - b), .string ⟨#[]⟩]) ∧ Below w.heap.size w w' := by
  obtain ⟨W1, hW1⟩ : ∃ W1, W1 = w.alloc (.cells #[.int .i64 0, .int .i64 0, .string ⟨#[]⟩] 27) := ⟨_, rfl⟩
  have B1 : Below w.heap.size w W1 := by rw [hW1]; exact (Below.refl _ _).alloc (Nat.le_refl _) _
  have z1 : w.heap.size < W1.heap.size := by rw [hW1]; simp
  have R0 : D.Blk W1 w.heap.size 27 #[.int .i64 0, .int .i64 0, .string ⟨#[]⟩] := by rw [hW1]; exact D.Blk.new _ _ _
  have HC := Lib.hid (numberValue_any (a - b) W1)
  go_enter Try.func51, Try.ntmps51
  go_upto_region 1 with fail
  rw [← hW1]
  clear hW1
  go_wp2_with fail
  refine HC.out.mono ?_
  rintro e w2 ⟨rfl, hb2⟩
  have R2 := R0.below hb2 z1
  have r0 : World.cell? w2 ⟨w.heap.size, 0, none⟩ = some (.int .i64 0) := R2.cell 0
  have r1 : World.cell? w2 ⟨w.heap.size, 1, none⟩ = some (.int .i64 0) := R2.cell 1
  have r2 : World.cell? w2 ⟨w.heap.size, 2, none⟩ = some (.string ⟨#[]⟩) := R2.cell 2
  have g0 := R2.frozen 0
  have g1 := R2.frozen 1
  have g2 := R2.frozen 2
  have b2 := B1.trans (hb2.mono (by omega))
  clear R0 R2 HC
  go_wp2_with fail
  refine bodyPost_ret (v := .agg #[.int .i64 3, .int .i64 (a - b), .string ⟨#[]⟩]) (by simp [results, Try.results51, go_sem, r0, r1, r2]) rfl ⟨rfl, ?_⟩
  exact ((b2.setCell (by simp) _).setCell (by simp) _).setCell (by simp) _
set_option maxRecDepth 100000 in
set_option maxHeartbeats 4000000 in
theorem op3_any (a b : Int) (ha : -999999999 ≤ a ∧ a ≤ 999999999) (hb : -999999999 ≤ b ∧ b ≤ 999999999) (w : World) : Calls Try.prog 52 #[.int .i64 a, .int .i64 b] w fun e w' => e = .returned (.agg #[.int .i64 3, .int .i64 (a * b), .string ⟨#[]⟩]) ∧ Below w.heap.size w w' := by
  have hmul : -1000000000000000000 ≤ a * b ∧ a * b ≤ 1000000000000000000 := by
    have h1 : a.natAbs ≤ 999999999 := by omega
    have h2 : b.natAbs ≤ 999999999 := by omega
    have h3 : (a * b).natAbs ≤ 999999999 * 999999999 := by rw [Int.natAbs_mul]; exact Nat.mul_le_mul h1 h2
    omega
  obtain ⟨W1, hW1⟩ : ∃ W1, W1 = w.alloc (.cells #[.int .i64 0, .int .i64 0, .string ⟨#[]⟩] 27) := ⟨_, rfl⟩
  have B1 : Below w.heap.size w W1 := by rw [hW1]; exact (Below.refl _ _).alloc (Nat.le_refl _) _
  have z1 : w.heap.size < W1.heap.size := by rw [hW1]; simp
  have R0 : D.Blk W1 w.heap.size 27 #[.int .i64 0, .int .i64 0, .string ⟨#[]⟩] := by rw [hW1]; exact D.Blk.new _ _ _
  have HC := Lib.hid (numberValue_any (a * b) W1)
  go_enter Try.func52, Try.ntmps52
  go_upto_region 1 with fail
  rw [← hW1]
  clear hW1
  go_wp2_with fail
  refine HC.out.mono ?_
  rintro e w2 ⟨rfl, hb2⟩
  have R2 := R0.below hb2 z1
  have r0 : World.cell? w2 ⟨w.heap.size, 0, none⟩ = some (.int .i64 0) := R2.cell 0
  have r1 : World.cell? w2 ⟨w.heap.size, 1, none⟩ = some (.int .i64 0) := R2.cell 1
  have r2 : World.cell? w2 ⟨w.heap.size, 2, none⟩ = some (.string ⟨#[]⟩) := R2.cell 2
  have g0 := R2.frozen 0
  have g1 := R2.frozen 1
  have g2 := R2.frozen 2
  have b2 := B1.trans (hb2.mono (by omega))
  clear R0 R2 HC
  go_wp2_with fail
  refine bodyPost_ret (v := .agg #[.int .i64 3, .int .i64 (a * b), .string ⟨#[]⟩]) (by simp [results, Try.results52, go_sem, r0, r1, r2]) rfl ⟨rfl, ?_⟩
  exact ((b2.setCell (by simp) _).setCell (by simp) _).setCell (by simp) _
set_option maxRecDepth 100000 in
set_option maxHeartbeats 4000000 in
theorem op4_any (a b : Int) (ha : -999999999 ≤ a ∧ a ≤ 999999999) (hb : -999999999 ≤ b ∧ b ≤ 999999999) (w : World) : Calls Try.prog 53 #[.int .i64 a, .int .i64 b] w fun e w' => e = .returned (.agg #[.int .i64 2, .int .i64 (if (a == b) = true then 1 else 0), .string ⟨#[]⟩]) ∧ Below w.heap.size w w' := by
  obtain ⟨W1, hW1⟩ : ∃ W1, W1 = w.alloc (.cells #[.int .i64 0, .int .i64 0, .string ⟨#[]⟩] 27) := ⟨_, rfl⟩
  have B1 : Below w.heap.size w W1 := by rw [hW1]; exact (Below.refl _ _).alloc (Nat.le_refl _) _
  have z1 : w.heap.size < W1.heap.size := by rw [hW1]; simp
  have R0 : D.Blk W1 w.heap.size 27 #[.int .i64 0, .int .i64 0, .string ⟨#[]⟩] := by rw [hW1]; exact D.Blk.new _ _ _
  have HC := Lib.hid (booleanValue_any (a == b) W1)
  obtain ⟨cc, hcc⟩ : ∃ cc : Int, cc = (if (a == b) = true then 1 else 0) := ⟨_, rfl⟩
  rw [← hcc] at HC ⊢
  clear hcc
  go_enter Try.func53, Try.ntmps53
  go_upto_region 1 with fail
  rw [← hW1]
  clear hW1
  go_wp2_with fail
  refine HC.out.mono ?_
  rintro e w2 ⟨rfl, hb2⟩
  have R2 := R0.below hb2 z1
  have r0 : World.cell? w2 ⟨w.heap.size, 0, none⟩ = some (.int .i64 0) := R2.cell 0
  have r1 : World.cell? w2 ⟨w.heap.size, 1, none⟩ = some (.int .i64 0) := R2.cell 1
  have r2 : World.cell? w2 ⟨w.heap.size, 2, none⟩ = some (.string ⟨#[]⟩) := R2.cell 2
  have g0 := R2.frozen 0
  have g1 := R2.frozen 1
  have g2 := R2.frozen 2
  have b2 := B1.trans (hb2.mono (by omega))
  clear R0 R2 HC
  go_wp2_with fail
  refine bodyPost_ret (v := .agg #[.int .i64 2, .int .i64 cc, .string ⟨#[]⟩]) (by simp [results, Try.results53, go_sem, r0, r1, r2]) rfl ⟨rfl, ?_⟩
  exact ((b2.setCell (by simp) _).setCell (by simp) _).setCell (by simp) _
set_option maxRecDepth 100000 in
set_option maxHeartbeats 4000000 in
theorem op5_any (a b : Int) (ha : -999999999 ≤ a ∧ a ≤ 999999999) (hb : -999999999 ≤ b ∧ b ≤ 999999999) (w : World) : Calls Try.prog 55 #[.int .i64 a, .int .i64 b] w fun e w' => e = .returned (.agg #[.int .i64 2, .int .i64 (if (decide (a < b)) = true then 1 else 0), .string ⟨#[]⟩]) ∧ Below w.heap.size w w' := by
  obtain ⟨W1, hW1⟩ : ∃ W1, W1 = w.alloc (.cells #[.int .i64 0, .int .i64 0, .string ⟨#[]⟩] 27) := ⟨_, rfl⟩
  have B1 : Below w.heap.size w W1 := by rw [hW1]; exact (Below.refl _ _).alloc (Nat.le_refl _) _
  have z1 : w.heap.size < W1.heap.size := by rw [hW1]; simp
  have R0 : D.Blk W1 w.heap.size 27 #[.int .i64 0, .int .i64 0, .string ⟨#[]⟩] := by rw [hW1]; exact D.Blk.new _ _ _
  have HC := Lib.hid (booleanValue_any (decide (a < b)) W1)
  obtain ⟨cc, hcc⟩ : ∃ cc : Int, cc = (if (decide (a < b)) = true then 1 else 0) := ⟨_, rfl⟩
  rw [← hcc] at HC ⊢
  clear hcc
  go_enter Try.func55, Try.ntmps55
  go_upto_region 1 with fail
  rw [← hW1]
  clear hW1
  go_wp2_with fail
  refine HC.out.mono ?_
  rintro e w2 ⟨rfl, hb2⟩
  have R2 := R0.below hb2 z1
  have r0 : World.cell? w2 ⟨w.heap.size, 0, none⟩ = some (.int .i64 0) := R2.cell 0
  have r1 : World.cell? w2 ⟨w.heap.size, 1, none⟩ = some (.int .i64 0) := R2.cell 1
  have r2 : World.cell? w2 ⟨w.heap.size, 2, none⟩ = some (.string ⟨#[]⟩) := R2.cell 2
  have g0 := R2.frozen 0
  have g1 := R2.frozen 1
  have g2 := R2.frozen 2
  have b2 := B1.trans (hb2.mono (by omega))
  clear R0 R2 HC
  go_wp2_with fail
  refine bodyPost_ret (v := .agg #[.int .i64 2, .int .i64 cc, .string ⟨#[]⟩]) (by simp [results, Try.results55, go_sem, r0, r1, r2]) rfl ⟨rfl, ?_⟩
  exact ((b2.setCell (by simp) _).setCell (by simp) _).setCell (by simp) _
set_option maxRecDepth 100000 in
set_option maxHeartbeats 4000000 in
theorem op6_any (p : Pq) (w : World) : Calls Try.prog 57 #[Pq.val p] w fun e w' => e = .returned (.agg #[.int .i64 p.h.k, .int .i64 p.h.n, .string p.h.t]) ∧ Below w.heap.size w w' := by
  unfold Pq.val
  go_enter Try.func57, Try.ntmps57
  go_wp2_with fail
  obtain ⟨W1, hW1⟩ : ∃ W1, W1 = (w.alloc (.cells #[.int .i64 p.h.k, .int .i64 p.h.n, .string p.h.t, .int .i64 p.u.k, .int .i64 p.u.n, .string p.u.t] 48)).alloc (.cells #[.int .i64 p.h.k, .int .i64 p.h.n, .string p.h.t] 27) := ⟨_, rfl⟩
  rw [← hW1]
  have B1 : Below w.heap.size w W1 := by rw [hW1]; exact ((Below.refl _ _).alloc (Nat.le_refl _) _).alloc (by simp) _
  have R0 : D.Blk W1 (w.heap.size + 1) 27 #[.int .i64 p.h.k, .int .i64 p.h.n, .string p.h.t] := by rw [hW1]; have := D.Blk.new (w.alloc (.cells #[.int .i64 p.h.k, .int .i64 p.h.n, .string p.h.t, .int .i64 p.u.k, .int .i64 p.u.n, .string p.u.t] 48)) 27 #[.int .i64 p.h.k, .int .i64 p.h.n, .string p.h.t]; simpa using this
  have r0 := R0.cell 0
  have r1 := R0.cell 1
  have r2 := R0.cell 2
  clear hW1
  refine bodyPost_ret (v := .agg #[.int .i64 p.h.k, .int .i64 p.h.n, .string p.h.t]) (by simp [results, Try.results57, go_sem, r0, r1, r2]) rfl ⟨rfl, B1⟩
set_option maxRecDepth 100000 in
set_option maxHeartbeats 4000000 in
theorem op7_any (p : Pq) (w : World) : Calls Try.prog 58 #[Pq.val p] w fun e w' => e = .returned (.agg #[.int .i64 p.u.k, .int .i64 p.u.n, .string p.u.t]) ∧ Below w.heap.size w w' := by
  unfold Pq.val
  go_enter Try.func58, Try.ntmps58
  go_wp2_with fail
  obtain ⟨W1, hW1⟩ : ∃ W1, W1 = (w.alloc (.cells #[.int .i64 p.h.k, .int .i64 p.h.n, .string p.h.t, .int .i64 p.u.k, .int .i64 p.u.n, .string p.u.t] 48)).alloc (.cells #[.int .i64 p.u.k, .int .i64 p.u.n, .string p.u.t] 27) := ⟨_, rfl⟩
  rw [← hW1]
  have B1 : Below w.heap.size w W1 := by rw [hW1]; exact ((Below.refl _ _).alloc (Nat.le_refl _) _).alloc (by simp) _
  have R0 : D.Blk W1 (w.heap.size + 1) 27 #[.int .i64 p.u.k, .int .i64 p.u.n, .string p.u.t] := by rw [hW1]; have := D.Blk.new (w.alloc (.cells #[.int .i64 p.h.k, .int .i64 p.h.n, .string p.h.t, .int .i64 p.u.k, .int .i64 p.u.n, .string p.u.t] 48)) 27 #[.int .i64 p.u.k, .int .i64 p.u.n, .string p.u.t]; simpa using this
  have r0 := R0.cell 0
  have r1 := R0.cell 1
  have r2 := R0.cell 2
  clear hW1
  refine bodyPost_ret (v := .agg #[.int .i64 p.u.k, .int .i64 p.u.n, .string p.u.t]) (by simp [results, Try.results58, go_sem, r0, r1, r2]) rfl ⟨rfl, B1⟩
set_option maxRecDepth 100000 in
set_option maxHeartbeats 4000000 in
theorem op8_any (v : Vu) (w : World) : Calls Try.prog 60 #[Vu.val v] w fun e w' => e = .returned (.bool (v.k == 1)) ∧ Below w.heap.size w w' := by
  unfold Vu.val
  go_enter Try.func60, Try.ntmps60
  go_wp2_with fail
  go_ret
  exact ⟨rfl, (Below.refl _ _).alloc (Nat.le_refl _) _⟩
set_option maxRecDepth 100000 in
set_option maxHeartbeats 4000000 in
theorem op9_any (v : Vu) (w : World) : Calls Try.prog 61 #[Vu.val v] w fun e w' => e = .returned (.bool (v.k == 7)) ∧ Below w.heap.size w w' := by
  unfold Vu.val
  go_enter Try.func61, Try.ntmps61
  go_wp2_with fail
  go_ret
  exact ⟨rfl, (Below.refl _ _).alloc (Nat.le_refl _) _⟩
set_option maxRecDepth 100000 in
set_option maxHeartbeats 4000000 in
theorem op10_any (v : Vu) (w : World) : Calls Try.prog 62 #[Vu.val v] w fun e w' => e = .returned (.bool (v.k == 3)) ∧ Below w.heap.size w w' := by
  unfold Vu.val
  go_enter Try.func62, Try.ntmps62
  go_wp2_with fail
  go_ret
  exact ⟨rfl, (Below.refl _ _).alloc (Nat.le_refl _) _⟩
end Go.Proofs.Ytnldlbglgalbaab

namespace Go.Proofs.Ytnldlbglgalbaab
open Go.RowKit
theorem far3 {w : World} {g ab o : Nat} (h : ab ≠ g) (x y z : Value) : (((w.setCell ⟨g, 0, none⟩ x).setCell ⟨g, 1, none⟩ y).setCell ⟨g, 2, none⟩ z).cell? ⟨ab, o, none⟩ = w.cell? ⟨ab, o, none⟩ := by
  have e : ∀ (u : World) (q : Nat) (v : Value), (u.setCell ⟨g, q, none⟩ v).cell? ⟨ab, o, none⟩ = u.cell? ⟨ab, o, none⟩ := fun u q v => World.cell?_of_block (a := ⟨ab, o, none⟩) (Below.heap_setCell _ _ _ _ h)
  rw [e, e, e]
set_option maxRecDepth 100000 in
set_option maxHeartbeats 4000000 in
theorem isFalse_any (v : Vu) (w : World) : Calls Try.prog 64 #[Vu.val v] w fun e w' => e = .returned (.bool (v.k == 2 && (v.n == 0 && v.t.toList == []))) ∧ Below w.heap.size w w' := by
  obtain ⟨W1, hW1⟩ : ∃ W1, W1 = w.alloc (.cells #[.int .i64 v.k, .int .i64 v.n, .string v.t] 27) := ⟨_, rfl⟩
  have b1 : Below w.heap.size w W1 := by rw [hW1]; exact (Below.refl _ _).alloc (Nat.le_refl _) _
  have z1 : w.heap.size < W1.heap.size := by rw [hW1]; simp
  have X1 : Vu.Box W1 w.heap.size v := by rw [hW1]; exact Vu.Box.new _ _ _
  have c0 : ∀ z : Near W1, z.at_.cell? ⟨w.heap.size, 0, none⟩ = some (.int .i64 v.k) := fun z => z.cell 0 X1.c0 z1
  have c1 : ∀ z : Near W1, z.at_.cell? ⟨w.heap.size, 1, none⟩ = some (.int .i64 v.n) := fun z => z.cell 1 X1.c1 z1
  have c2 : ∀ z : Near W1, z.at_.cell? ⟨w.heap.size, 2, none⟩ = some (.string v.t) := fun z => z.cell 2 X1.c2 z1
  clear X1
  unfold Vu.val
  cases q1 : (v.k == 2)
  · go_enter Try.func64, Try.ntmps64
    go_upto_region 1 with fail
    rw [← hW1]
    clear hW1
    refine wp_region_near (by kernel_rfl) (by kernel_rfl) ?_
    repeat (go_big_quiet_step ((go_at_call 54; with_reducible exact Calls.near (booleanF_any _))))
    refine wpQuiet_nil ?_
    intro _ hw1
    obtain ⟨nx, hw2⟩ := hw1
    subst hw2
    go_wp2_with fail
    go_ret
    exact ⟨rfl, b1.trans (nx.below.mono (by omega))⟩
  cases q2 : (v.n == 0)
  · go_enter Try.func64, Try.ntmps64
    go_upto_region 1 with fail
    rw [← hW1]
    clear hW1
    refine wp_region_near (by kernel_rfl) (by kernel_rfl) ?_
    repeat (go_big_quiet_step ((go_at_call 54; with_reducible exact Calls.near (booleanF_any _))))
    refine wpQuiet_nil ?_
    intro _ hw1
    obtain ⟨nx, hw2⟩ := hw1
    subst hw2
    go_wp2_with fail
    go_ret
    exact ⟨rfl, b1.trans (nx.below.mono (by omega))⟩
  cases q3 : (v.t.toList == [])
  · go_enter Try.func64, Try.ntmps64
    go_upto_region 1 with fail
    rw [← hW1]
    clear hW1
    refine wp_region_near (by kernel_rfl) (by kernel_rfl) ?_
    repeat (go_big_quiet_step ((go_at_call 54; with_reducible exact Calls.near (booleanF_any _))))
    refine wpQuiet_nil ?_
    intro _ hw1
    obtain ⟨nx, hw2⟩ := hw1
    subst hw2
    go_wp2_with fail
    go_ret
    exact ⟨rfl, b1.trans (nx.below.mono (by omega))⟩
  · go_enter Try.func64, Try.ntmps64
    go_upto_region 1 with fail
    rw [← hW1]
    clear hW1
    refine wp_region_near (by kernel_rfl) (by kernel_rfl) ?_
    repeat (go_big_quiet_step ((go_at_call 54; with_reducible exact Calls.near (booleanF_any _))))
    refine wpQuiet_nil ?_
    intro _ hw1
    obtain ⟨nx, hw2⟩ := hw1
    subst hw2
    go_wp2_with fail
    go_ret
    exact ⟨rfl, b1.trans (nx.below.mono (by omega))⟩
set_option maxRecDepth 100000 in
set_option maxHeartbeats 4000000 in
theorem op11_any (a b : Vu) (A : Option Addr) (c : Nat) (P : Value) (B : Nat) (w : World) (hin : Vu.E.LIn w B A c [a, b]) (hB : B ≤ w.heap.size) :
    Calls Try.prog 63 #[.slice A 2 c, P] w fun e w' => e = .returned (.tuple #[.agg #[.int .i64 2, .int .i64 (if (a.k == b.k && (a.n == b.n && a.t.toList == b.t.toList)) = true then 1 else 0), .string ⟨#[]⟩], .bool true]) ∧ Below w.heap.size w w' := by
  obtain ⟨ab, ao, rfl, hab, a0, a1, a2, _⟩ := Vu.at_ hin (i := 0) (x := a) rfl
  obtain ⟨ab2, ao2, e2, _, d0, d1, d2, _⟩ := Vu.at_ hin (i := 1) (x := b) rfl
  simp only [Option.some.injEq, Addr.mk.injEq] at e2
  obtain ⟨rfl, rfl, _⟩ := e2
  obtain ⟨W1, hW1⟩ : ∃ W1, W1 = w.alloc (.cells #[.int .i64 0, .int .i64 0, .string ⟨#[]⟩] 27) := ⟨_, rfl⟩
  have B1 : Below w.heap.size w W1 := by rw [hW1]; exact (Below.refl _ _).alloc (Nat.le_refl _) _
  have z1 : w.heap.size < W1.heap.size := by rw [hW1]; simp
  have R0 : D.Blk W1 w.heap.size 27 #[.int .i64 0, .int .i64 0, .string ⟨#[]⟩] := by rw [hW1]; exact D.Blk.new _ _ _
  simp only [Nat.zero_mul, Nat.one_mul, Nat.add_zero] at a0 a1 a2 d0 d1 d2
  have la : ab < W1.heap.size := by omega
  have a0 := (B1.cell (p := ⟨ab, ao, none⟩) (show ab < _ by omega)).trans a0
  have a1 := (B1.cell (p := ⟨ab, ao + 1, none⟩) (show ab < _ by omega)).trans a1
  have a2 := (B1.cell (p := ⟨ab, ao + 2, none⟩) (show ab < _ by omega)).trans a2
  have d0 := (B1.cell (p := ⟨ab, ao + 3, none⟩) (show ab < _ by omega)).trans d0
  have d1 := (B1.cell (p := ⟨ab, ao + 3 + 1, none⟩) (show ab < _ by omega)).trans d1
  have d2 := (B1.cell (p := ⟨ab, ao + 3 + 2, none⟩) (show ab < _ by omega)).trans d2
  have nz : ab ≠ w.heap.size := by omega
  obtain ⟨X, hX⟩ : ∃ X, X = (a.k == b.k && (a.n == b.n && a.t.toList == b.t.toList)) := ⟨_, rfl⟩
  rw [← hX]
  obtain ⟨cc, hcc⟩ : ∃ cc : Int, cc = (if X = true then 1 else 0) := ⟨_, rfl⟩
  have HB : Hid (∀ u, Calls Try.prog 54 #[.bool X] u fun e w' => e = .returned (.agg #[.int .i64 2, .int .i64 cc, .string ⟨#[]⟩]) ∧ Below u.heap.size u w') := fun u => by rw [hcc]; exact booleanValue_any X u
  rw [← hcc]
  clear hcc
  cases q1 : (a.k == b.k)
  · obtain rfl : X = false := by rw [hX, q1]; rfl
    clear hX
    go_enter Try.func63, Try.ntmps63
    go_upto_region 1 with fail
    rw [← hW1]
    clear hW1
    have tok0 : True := trivial
    go_region_held3 (fun w' => w'.cell? ⟨ab, ao, none⟩ = some (.int .i64 a.k) ∧ w'.cell? ⟨ab, ao + 1, none⟩ = some (.int .i64 a.n) ∧ w'.cell? ⟨ab, ao + 2, none⟩ = some (.string a.t) ∧ w'.cell? ⟨ab, ao + 3, none⟩ = some (.int .i64 b.k) ∧ w'.cell? ⟨ab, ao + 3 + 1, none⟩ = some (.int .i64 b.n) ∧ w'.cell? ⟨ab, ao + 3 + 2, none⟩ = some (.string b.t)) (first | go_keep | (refine ⟨?_, ?_, ?_, ?_, ?_, ?_⟩ <;> (rw [far3 nz]; assumption))) (first | (go_at_call 54; have _t := tok0; (with_reducible refine (HB.out _).mono ?_); rintro e w2 ⟨rfl, hb2⟩; clear tok0; have hh : Below W1.heap.size W1 w2 := below_undrew hb2; have R2 := R0.below hh z1; have r0 : World.cell? w2 ⟨w.heap.size, 0, none⟩ = some (.int .i64 0) := R2.cell 0; have r1 : World.cell? w2 ⟨w.heap.size, 1, none⟩ = some (.int .i64 0) := R2.cell 1; have r2 : World.cell? w2 ⟨w.heap.size, 2, none⟩ = some (.string ⟨#[]⟩) := R2.cell 2; have g0 := R2.frozen 0; have g1 := R2.frozen 1; have g2 := R2.frozen 2; have a0 := (hh.cell (p := ⟨ab, ao, none⟩) la).trans a0; have a1 := (hh.cell (p := ⟨ab, ao + 1, none⟩) la).trans a1; have a2 := (hh.cell (p := ⟨ab, ao + 2, none⟩) la).trans a2; have d0 := (hh.cell (p := ⟨ab, ao + 3, none⟩) la).trans d0; have d1 := (hh.cell (p := ⟨ab, ao + 3 + 1, none⟩) la).trans d1; have d2 := (hh.cell (p := ⟨ab, ao + 3 + 2, none⟩) la).trans d2))
    all_goals go_wp2_with fail
    all_goals refine bodyPost_ret (v := .tuple #[.agg #[.int .i64 2, .int .i64 cc, .string ⟨#[]⟩], .bool true]) (by simp [results, Try.results63, go_sem, r0, r1, r2]) rfl ⟨rfl, ?_⟩
    all_goals (have b2 := B1.trans (hh.mono (by omega)))
    all_goals exact ((b2.setCell (by simp) _).setCell (by simp) _).setCell (by simp) _
  cases q2 : (a.n == b.n)
  · obtain rfl : X = false := by rw [hX, q1, q2]; rfl
    clear hX
    go_enter Try.func63, Try.ntmps63
    go_upto_region 1 with fail
    rw [← hW1]
    clear hW1
    have tok0 : True := trivial
    go_region_held3 (fun w' => w'.cell? ⟨ab, ao, none⟩ = some (.int .i64 a.k) ∧ w'.cell? ⟨ab, ao + 1, none⟩ = some (.int .i64 a.n) ∧ w'.cell? ⟨ab, ao + 2, none⟩ = some (.string a.t) ∧ w'.cell? ⟨ab, ao + 3, none⟩ = some (.int .i64 b.k) ∧ w'.cell? ⟨ab, ao + 3 + 1, none⟩ = some (.int .i64 b.n) ∧ w'.cell? ⟨ab, ao + 3 + 2, none⟩ = some (.string b.t)) (first | go_keep | (refine ⟨?_, ?_, ?_, ?_, ?_, ?_⟩ <;> (rw [far3 nz]; assumption))) (first | (go_at_call 54; have _t := tok0; (with_reducible refine (HB.out _).mono ?_); rintro e w2 ⟨rfl, hb2⟩; clear tok0; have hh : Below W1.heap.size W1 w2 := below_undrew hb2; have R2 := R0.below hh z1; have r0 : World.cell? w2 ⟨w.heap.size, 0, none⟩ = some (.int .i64 0) := R2.cell 0; have r1 : World.cell? w2 ⟨w.heap.size, 1, none⟩ = some (.int .i64 0) := R2.cell 1; have r2 : World.cell? w2 ⟨w.heap.size, 2, none⟩ = some (.string ⟨#[]⟩) := R2.cell 2; have g0 := R2.frozen 0; have g1 := R2.frozen 1; have g2 := R2.frozen 2; have a0 := (hh.cell (p := ⟨ab, ao, none⟩) la).trans a0; have a1 := (hh.cell (p := ⟨ab, ao + 1, none⟩) la).trans a1; have a2 := (hh.cell (p := ⟨ab, ao + 2, none⟩) la).trans a2; have d0 := (hh.cell (p := ⟨ab, ao + 3, none⟩) la).trans d0; have d1 := (hh.cell (p := ⟨ab, ao + 3 + 1, none⟩) la).trans d1; have d2 := (hh.cell (p := ⟨ab, ao + 3 + 2, none⟩) la).trans d2))
    all_goals go_wp2_with fail
    all_goals refine bodyPost_ret (v := .tuple #[.agg #[.int .i64 2, .int .i64 cc, .string ⟨#[]⟩], .bool true]) (by simp [results, Try.results63, go_sem, r0, r1, r2]) rfl ⟨rfl, ?_⟩
    all_goals (have b2 := B1.trans (hh.mono (by omega)))
    all_goals exact ((b2.setCell (by simp) _).setCell (by simp) _).setCell (by simp) _
  cases q3 : (a.t.toList == b.t.toList)
  · obtain rfl : X = false := by rw [hX, q1, q2, q3]; rfl
    clear hX
    go_enter Try.func63, Try.ntmps63
    go_upto_region 1 with fail
    rw [← hW1]
    clear hW1
    have tok0 : True := trivial
    go_region_held3 (fun w' => w'.cell? ⟨ab, ao, none⟩ = some (.int .i64 a.k) ∧ w'.cell? ⟨ab, ao + 1, none⟩ = some (.int .i64 a.n) ∧ w'.cell? ⟨ab, ao + 2, none⟩ = some (.string a.t) ∧ w'.cell? ⟨ab, ao + 3, none⟩ = some (.int .i64 b.k) ∧ w'.cell? ⟨ab, ao + 3 + 1, none⟩ = some (.int .i64 b.n) ∧ w'.cell? ⟨ab, ao + 3 + 2, none⟩ = some (.string b.t)) (first | go_keep | (refine ⟨?_, ?_, ?_, ?_, ?_, ?_⟩ <;> (rw [far3 nz]; assumption))) (first | (go_at_call 54; have _t := tok0; (with_reducible refine (HB.out _).mono ?_); rintro e w2 ⟨rfl, hb2⟩; clear tok0; have hh : Below W1.heap.size W1 w2 := below_undrew hb2; have R2 := R0.below hh z1; have r0 : World.cell? w2 ⟨w.heap.size, 0, none⟩ = some (.int .i64 0) := R2.cell 0; have r1 : World.cell? w2 ⟨w.heap.size, 1, none⟩ = some (.int .i64 0) := R2.cell 1; have r2 : World.cell? w2 ⟨w.heap.size, 2, none⟩ = some (.string ⟨#[]⟩) := R2.cell 2; have g0 := R2.frozen 0; have g1 := R2.frozen 1; have g2 := R2.frozen 2; have a0 := (hh.cell (p := ⟨ab, ao, none⟩) la).trans a0; have a1 := (hh.cell (p := ⟨ab, ao + 1, none⟩) la).trans a1; have a2 := (hh.cell (p := ⟨ab, ao + 2, none⟩) la).trans a2; have d0 := (hh.cell (p := ⟨ab, ao + 3, none⟩) la).trans d0; have d1 := (hh.cell (p := ⟨ab, ao + 3 + 1, none⟩) la).trans d1; have d2 := (hh.cell (p := ⟨ab, ao + 3 + 2, none⟩) la).trans d2))
    all_goals go_wp2_with fail
    all_goals refine bodyPost_ret (v := .tuple #[.agg #[.int .i64 2, .int .i64 cc, .string ⟨#[]⟩], .bool true]) (by simp [results, Try.results63, go_sem, r0, r1, r2]) rfl ⟨rfl, ?_⟩
    all_goals (have b2 := B1.trans (hh.mono (by omega)))
    all_goals exact ((b2.setCell (by simp) _).setCell (by simp) _).setCell (by simp) _
  · obtain rfl : X = true := by rw [hX, q1, q2, q3]; rfl
    clear hX
    go_enter Try.func63, Try.ntmps63
    go_upto_region 1 with fail
    rw [← hW1]
    clear hW1
    have tok0 : True := trivial
    go_region_held3 (fun w' => w'.cell? ⟨ab, ao, none⟩ = some (.int .i64 a.k) ∧ w'.cell? ⟨ab, ao + 1, none⟩ = some (.int .i64 a.n) ∧ w'.cell? ⟨ab, ao + 2, none⟩ = some (.string a.t) ∧ w'.cell? ⟨ab, ao + 3, none⟩ = some (.int .i64 b.k) ∧ w'.cell? ⟨ab, ao + 3 + 1, none⟩ = some (.int .i64 b.n) ∧ w'.cell? ⟨ab, ao + 3 + 2, none⟩ = some (.string b.t)) (first | go_keep | (refine ⟨?_, ?_, ?_, ?_, ?_, ?_⟩ <;> (rw [far3 nz]; assumption))) (first | (go_at_call 54; have _t := tok0; (with_reducible refine (HB.out _).mono ?_); rintro e w2 ⟨rfl, hb2⟩; clear tok0; have hh : Below W1.heap.size W1 w2 := below_undrew hb2; have R2 := R0.below hh z1; have r0 : World.cell? w2 ⟨w.heap.size, 0, none⟩ = some (.int .i64 0) := R2.cell 0; have r1 : World.cell? w2 ⟨w.heap.size, 1, none⟩ = some (.int .i64 0) := R2.cell 1; have r2 : World.cell? w2 ⟨w.heap.size, 2, none⟩ = some (.string ⟨#[]⟩) := R2.cell 2; have g0 := R2.frozen 0; have g1 := R2.frozen 1; have g2 := R2.frozen 2; have a0 := (hh.cell (p := ⟨ab, ao, none⟩) la).trans a0; have a1 := (hh.cell (p := ⟨ab, ao + 1, none⟩) la).trans a1; have a2 := (hh.cell (p := ⟨ab, ao + 2, none⟩) la).trans a2; have d0 := (hh.cell (p := ⟨ab, ao + 3, none⟩) la).trans d0; have d1 := (hh.cell (p := ⟨ab, ao + 3 + 1, none⟩) la).trans d1; have d2 := (hh.cell (p := ⟨ab, ao + 3 + 2, none⟩) la).trans d2))
    all_goals go_wp2_with fail
    all_goals refine bodyPost_ret (v := .tuple #[.agg #[.int .i64 2, .int .i64 cc, .string ⟨#[]⟩], .bool true]) (by simp [results, Try.results63, go_sem, r0, r1, r2]) rfl ⟨rfl, ?_⟩
    all_goals (have b2 := B1.trans (hh.mono (by omega)))
    all_goals exact ((b2.setCell (by simp) _).setCell (by simp) _).setCell (by simp) _
set_option maxRecDepth 100000 in
set_option maxHeartbeats 4000000 in
theorem rule8_any (a : Vu) (A : Option Addr) (c : Nat) (P : Value) (g B : Nat) (w : World) (hin : Vu.E.LIn w B A c [a]) (hB : B ≤ w.heap.size) (hg : g < w.heap.size) (hf : w.cell? ⟨g, 0, none⟩ = some (.func (.func 60) #[] #[])) :
    Calls Try.prog 68 #[.slice A 1 c, P, .pointer (some ⟨g, 0, none⟩)] w fun e w' => e = .returned (.tuple #[.agg #[.int .i64 2, .int .i64 (if (a.k == 1) = true then 1 else 0), .string ⟨#[]⟩], .bool true]) ∧ Below w.heap.size w w' := by
  obtain ⟨ab, ao, rfl, hab, a0, a1, a2, _⟩ := Vu.at_ hin (i := 0) (x := a) rfl
  simp only [Nat.zero_mul, Nat.add_zero] at a0 a1 a2
  obtain ⟨W1, hW1⟩ : ∃ W1, W1 = w.alloc (.cells #[.int .i64 0, .int .i64 0, .string ⟨#[]⟩] 27) := ⟨_, rfl⟩
  have B1 : Below w.heap.size w W1 := by rw [hW1]; exact (Below.refl _ _).alloc (Nat.le_refl _) _
  have z1 : w.heap.size < W1.heap.size := by rw [hW1]; simp
  have R0 : D.Blk W1 w.heap.size 27 #[.int .i64 0, .int .i64 0, .string ⟨#[]⟩] := by rw [hW1]; exact D.Blk.new _ _ _
  have a0 := (B1.cell (p := ⟨ab, ao, none⟩) (show ab < _ by omega)).trans a0
  have a1 := (B1.cell (p := ⟨ab, ao + 1, none⟩) (show ab < _ by omega)).trans a1
  have a2 := (B1.cell (p := ⟨ab, ao + 2, none⟩) (show ab < _ by omega)).trans a2
  have f0 := (B1.cell (p := ⟨g, 0, none⟩) hg).trans hf
  have la : ab < W1.heap.size := by omega
  have lg : g < W1.heap.size := by omega
  have nz : ab ≠ w.heap.size := by omega
  have ng : g ≠ w.heap.size := by omega
  obtain ⟨X, hX⟩ : ∃ X, X = (a.k == 1) := ⟨_, rfl⟩
  have HT : Hid (∀ u, Calls Try.prog 60 #[.agg #[.int .i64 a.k, .int .i64 a.n, .string a.t]] u fun e w' => e = .returned (.bool X) ∧ Below u.heap.size u w') := fun u => by rw [hX]; exact op8_any a u
  rw [← hX]
  clear hX hf
  obtain ⟨cc, hcc⟩ : ∃ cc : Int, cc = (if X = true then 1 else 0) := ⟨_, rfl⟩
  have HB : Hid (∀ u, Calls Try.prog 54 #[.bool X] u fun e w' => e = .returned (.agg #[.int .i64 2, .int .i64 cc, .string ⟨#[]⟩]) ∧ Below u.heap.size u w') := fun u => by rw [hcc]; exact booleanValue_any X u
  rw [← hcc]
  clear hcc
  go_enter Try.func68, Try.ntmps68
  go_upto_region 1 with fail
  rw [← hW1]
  clear hW1
  have tok0 : True := trivial
  have tok1 : True := trivial
  go_region_held3 (fun w' => w'.cell? ⟨g, 0, none⟩ = some (.func (.func 60) #[] #[]) ∧ w'.cell? ⟨ab, ao, none⟩ = some (.int .i64 a.k) ∧ w'.cell? ⟨ab, ao + 1, none⟩ = some (.int .i64 a.n) ∧ w'.cell? ⟨ab, ao + 2, none⟩ = some (.string a.t)) (first | go_keep | (refine ⟨?_, ?_, ?_, ?_⟩ <;> (first | (rw [far3 nz]; assumption) | (rw [far3 ng]; assumption)))) (first
    | (go_at_call 60; have _t := tok0; (with_reducible refine (HT.out _).mono ?_); rintro e w2 ⟨rfl, hb2⟩; clear tok0; have h2 : Below W1.heap.size W1 w2 := below_undrew hb2; have z2 := h2.size; have f0 := (h2.cell (p := ⟨g, 0, none⟩) lg).trans f0; have a0 := (h2.cell (p := ⟨ab, ao, none⟩) la).trans a0; have a1 := (h2.cell (p := ⟨ab, ao + 1, none⟩) la).trans a1; have a2 := (h2.cell (p := ⟨ab, ao + 2, none⟩) la).trans a2)
    | (go_at_call 54; have _t := tok1; (with_reducible refine (HB.out _).mono ?_); rintro e w3 ⟨rfl, hb3⟩; clear tok1; have h3 : Below W1.heap.size W1 w3 := h2.trans (hb3.mono z2); have R3 := R0.below h3 z1; have r0 : World.cell? w3 ⟨w.heap.size, 0, none⟩ = some (.int .i64 0) := R3.cell 0; have r1 : World.cell? w3 ⟨w.heap.size, 1, none⟩ = some (.int .i64 0) := R3.cell 1; have r2 : World.cell? w3 ⟨w.heap.size, 2, none⟩ = some (.string ⟨#[]⟩) := R3.cell 2; have g0 := R3.frozen 0; have g1 := R3.frozen 1; have g2 := R3.frozen 2; have f0 := (hb3.cell (p := ⟨g, 0, none⟩) (by show g < _; omega)).trans f0; have a0 := (hb3.cell (p := ⟨ab, ao, none⟩) (by show ab < _; omega)).trans a0; have a1 := (hb3.cell (p := ⟨ab, ao + 1, none⟩) (by show ab < _; omega)).trans a1; have a2 := (hb3.cell (p := ⟨ab, ao + 2, none⟩) (by show ab < _; omega)).trans a2))
  all_goals go_wp2_with fail
  all_goals refine bodyPost_ret (v := .tuple #[.agg #[.int .i64 2, .int .i64 cc, .string ⟨#[]⟩], .bool true]) (by simp [results, Try.results68, go_sem, r0, r1, r2]) rfl ⟨rfl, ?_⟩
  all_goals (have b3 := B1.trans (h3.mono (by omega)))
  all_goals exact ((b3.setCell (by simp) _).setCell (by simp) _).setCell (by simp) _
set_option maxRecDepth 100000 in
set_option maxHeartbeats 4000000 in
theorem rule9_any (a : Vu) (A : Option Addr) (c : Nat) (P : Value) (g B : Nat) (w : World) (hin : Vu.E.LIn w B A c [a]) (hB : B ≤ w.heap.size) (hg : g < w.heap.size) (hf : w.cell? ⟨g, 0, none⟩ = some (.func (.func 61) #[] #[])) :
    Calls Try.prog 68 #[.slice A 1 c, P, .pointer (some ⟨g, 0, none⟩)] w fun e w' => e = .returned (.tuple #[.agg #[.int .i64 2, .int .i64 (if (a.k == 7) = true then 1 else 0), .string ⟨#[]⟩], .bool true]) ∧ Below w.heap.size w w' := by
  obtain ⟨ab, ao, rfl, hab, a0, a1, a2, _⟩ := Vu.at_ hin (i := 0) (x := a) rfl
  simp only [Nat.zero_mul, Nat.add_zero] at a0 a1 a2
  obtain ⟨W1, hW1⟩ : ∃ W1, W1 = w.alloc (.cells #[.int .i64 0, .int .i64 0, .string ⟨#[]⟩] 27) := ⟨_, rfl⟩
  have B1 : Below w.heap.size w W1 := by rw [hW1]; exact (Below.refl _ _).alloc (Nat.le_refl _) _
  have z1 : w.heap.size < W1.heap.size := by rw [hW1]; simp
  have R0 : D.Blk W1 w.heap.size 27 #[.int .i64 0, .int .i64 0, .string ⟨#[]⟩] := by rw [hW1]; exact D.Blk.new _ _ _
  have a0 := (B1.cell (p := ⟨ab, ao, none⟩) (show ab < _ by omega)).trans a0
  have a1 := (B1.cell (p := ⟨ab, ao + 1, none⟩) (show ab < _ by omega)).trans a1
  have a2 := (B1.cell (p := ⟨ab, ao + 2, none⟩) (show ab < _ by omega)).trans a2
  have f0 := (B1.cell (p := ⟨g, 0, none⟩) hg).trans hf
  have la : ab < W1.heap.size := by omega
  have lg : g < W1.heap.size := by omega
  have nz : ab ≠ w.heap.size := by omega
  have ng : g ≠ w.heap.size := by omega
  obtain ⟨X, hX⟩ : ∃ X, X = (a.k == 7) := ⟨_, rfl⟩
  have HT : Hid (∀ u, Calls Try.prog 61 #[.agg #[.int .i64 a.k, .int .i64 a.n, .string a.t]] u fun e w' => e = .returned (.bool X) ∧ Below u.heap.size u w') := fun u => by rw [hX]; exact op9_any a u
  rw [← hX]
  clear hX hf
  obtain ⟨cc, hcc⟩ : ∃ cc : Int, cc = (if X = true then 1 else 0) := ⟨_, rfl⟩
  have HB : Hid (∀ u, Calls Try.prog 54 #[.bool X] u fun e w' => e = .returned (.agg #[.int .i64 2, .int .i64 cc, .string ⟨#[]⟩]) ∧ Below u.heap.size u w') := fun u => by rw [hcc]; exact booleanValue_any X u
  rw [← hcc]
  clear hcc
  go_enter Try.func68, Try.ntmps68
  go_upto_region 1 with fail
  rw [← hW1]
  clear hW1
  have tok0 : True := trivial
  have tok1 : True := trivial
  go_region_held3 (fun w' => w'.cell? ⟨g, 0, none⟩ = some (.func (.func 61) #[] #[]) ∧ w'.cell? ⟨ab, ao, none⟩ = some (.int .i64 a.k) ∧ w'.cell? ⟨ab, ao + 1, none⟩ = some (.int .i64 a.n) ∧ w'.cell? ⟨ab, ao + 2, none⟩ = some (.string a.t)) (first | go_keep | (refine ⟨?_, ?_, ?_, ?_⟩ <;> (first | (rw [far3 nz]; assumption) | (rw [far3 ng]; assumption)))) (first
    | (go_at_call 61; have _t := tok0; (with_reducible refine (HT.out _).mono ?_); rintro e w2 ⟨rfl, hb2⟩; clear tok0; have h2 : Below W1.heap.size W1 w2 := below_undrew hb2; have z2 := h2.size; have f0 := (h2.cell (p := ⟨g, 0, none⟩) lg).trans f0; have a0 := (h2.cell (p := ⟨ab, ao, none⟩) la).trans a0; have a1 := (h2.cell (p := ⟨ab, ao + 1, none⟩) la).trans a1; have a2 := (h2.cell (p := ⟨ab, ao + 2, none⟩) la).trans a2)
    | (go_at_call 54; have _t := tok1; (with_reducible refine (HB.out _).mono ?_); rintro e w3 ⟨rfl, hb3⟩; clear tok1; have h3 : Below W1.heap.size W1 w3 := h2.trans (hb3.mono z2); have R3 := R0.below h3 z1; have r0 : World.cell? w3 ⟨w.heap.size, 0, none⟩ = some (.int .i64 0) := R3.cell 0; have r1 : World.cell? w3 ⟨w.heap.size, 1, none⟩ = some (.int .i64 0) := R3.cell 1; have r2 : World.cell? w3 ⟨w.heap.size, 2, none⟩ = some (.string ⟨#[]⟩) := R3.cell 2; have g0 := R3.frozen 0; have g1 := R3.frozen 1; have g2 := R3.frozen 2; have f0 := (hb3.cell (p := ⟨g, 0, none⟩) (by show g < _; omega)).trans f0; have a0 := (hb3.cell (p := ⟨ab, ao, none⟩) (by show ab < _; omega)).trans a0; have a1 := (hb3.cell (p := ⟨ab, ao + 1, none⟩) (by show ab < _; omega)).trans a1; have a2 := (hb3.cell (p := ⟨ab, ao + 2, none⟩) (by show ab < _; omega)).trans a2))
  all_goals go_wp2_with fail
  all_goals refine bodyPost_ret (v := .tuple #[.agg #[.int .i64 2, .int .i64 cc, .string ⟨#[]⟩], .bool true]) (by simp [results, Try.results68, go_sem, r0, r1, r2]) rfl ⟨rfl, ?_⟩
  all_goals (have b3 := B1.trans (h3.mono (by omega)))
  all_goals exact ((b3.setCell (by simp) _).setCell (by simp) _).setCell (by simp) _
set_option maxRecDepth 100000 in
set_option maxHeartbeats 4000000 in
theorem rule10_any (a : Vu) (A : Option Addr) (c : Nat) (P : Value) (g B : Nat) (w : World) (hin : Vu.E.LIn w B A c [a]) (hB : B ≤ w.heap.size) (hg : g < w.heap.size) (hf : w.cell? ⟨g, 0, none⟩ = some (.func (.func 62) #[] #[])) :
    Calls Try.prog 68 #[.slice A 1 c, P, .pointer (some ⟨g, 0, none⟩)] w fun e w' => e = .returned (.tuple #[.agg #[.int .i64 2, .int .i64 (if (a.k == 3) = true then 1 else 0), .string ⟨#[]⟩], .bool true]) ∧ Below w.heap.size w w' := by
  obtain ⟨ab, ao, rfl, hab, a0, a1, a2, _⟩ := Vu.at_ hin (i := 0) (x := a) rfl
  simp only [Nat.zero_mul, Nat.add_zero] at a0 a1 a2
  obtain ⟨W1, hW1⟩ : ∃ W1, W1 = w.alloc (.cells #[.int .i64 0, .int .i64 0, .string ⟨#[]⟩] 27) := ⟨_, rfl⟩
  have B1 : Below w.heap.size w W1 := by rw [hW1]; exact (Below.refl _ _).alloc (Nat.le_refl _) _
  have z1 : w.heap.size < W1.heap.size := by rw [hW1]; simp
  have R0 : D.Blk W1 w.heap.size 27 #[.int .i64 0, .int .i64 0, .string ⟨#[]⟩] := by rw [hW1]; exact D.Blk.new _ _ _
  have a0 := (B1.cell (p := ⟨ab, ao, none⟩) (show ab < _ by omega)).trans a0
  have a1 := (B1.cell (p := ⟨ab, ao + 1, none⟩) (show ab < _ by omega)).trans a1
  have a2 := (B1.cell (p := ⟨ab, ao + 2, none⟩) (show ab < _ by omega)).trans a2
  have f0 := (B1.cell (p := ⟨g, 0, none⟩) hg).trans hf
  have la : ab < W1.heap.size := by omega
  have lg : g < W1.heap.size := by omega
  have nz : ab ≠ w.heap.size := by omega
  have ng : g ≠ w.heap.size := by omega
  obtain ⟨X, hX⟩ : ∃ X, X = (a.k == 3) := ⟨_, rfl⟩
  have HT : Hid (∀ u, Calls Try.prog 62 #[.agg #[.int .i64 a.k, .int .i64 a.n, .string a.t]] u fun e w' => e = .returned (.bool X) ∧ Below u.heap.size u w') := fun u => by rw [hX]; exact op10_any a u
  rw [← hX]
  clear hX hf
  obtain ⟨cc, hcc⟩ : ∃ cc : Int, cc = (if X = true then 1 else 0) := ⟨_, rfl⟩
  have HB : Hid (∀ u, Calls Try.prog 54 #[.bool X] u fun e w' => e = .returned (.agg #[.int .i64 2, .int .i64 cc, .string ⟨#[]⟩]) ∧ Below u.heap.size u w') := fun u => by rw [hcc]; exact booleanValue_any X u
  rw [← hcc]
  clear hcc
  go_enter Try.func68, Try.ntmps68
  go_upto_region 1 with fail
  rw [← hW1]
  clear hW1
  have tok0 : True := trivial
  have tok1 : True := trivial
  go_region_held3 (fun w' => w'.cell? ⟨g, 0, none⟩ = some (.func (.func 62) #[] #[]) ∧ w'.cell? ⟨ab, ao, none⟩ = some (.int .i64 a.k) ∧ w'.cell? ⟨ab, ao + 1, none⟩ = some (.int .i64 a.n) ∧ w'.cell? ⟨ab, ao + 2, none⟩ = some (.string a.t)) (first | go_keep | (refine ⟨?_, ?_, ?_, ?_⟩ <;> (first | (rw [far3 nz]; assumption) | (rw [far3 ng]; assumption)))) (first
    | (go_at_call 62; have _t := tok0; (with_reducible refine (HT.out _).mono ?_); rintro e w2 ⟨rfl, hb2⟩; clear tok0; have h2 : Below W1.heap.size W1 w2 := below_undrew hb2; have z2 := h2.size; have f0 := (h2.cell (p := ⟨g, 0, none⟩) lg).trans f0; have a0 := (h2.cell (p := ⟨ab, ao, none⟩) la).trans a0; have a1 := (h2.cell (p := ⟨ab, ao + 1, none⟩) la).trans a1; have a2 := (h2.cell (p := ⟨ab, ao + 2, none⟩) la).trans a2)
    | (go_at_call 54; have _t := tok1; (with_reducible refine (HB.out _).mono ?_); rintro e w3 ⟨rfl, hb3⟩; clear tok1; have h3 : Below W1.heap.size W1 w3 := h2.trans (hb3.mono z2); have R3 := R0.below h3 z1; have r0 : World.cell? w3 ⟨w.heap.size, 0, none⟩ = some (.int .i64 0) := R3.cell 0; have r1 : World.cell? w3 ⟨w.heap.size, 1, none⟩ = some (.int .i64 0) := R3.cell 1; have r2 : World.cell? w3 ⟨w.heap.size, 2, none⟩ = some (.string ⟨#[]⟩) := R3.cell 2; have g0 := R3.frozen 0; have g1 := R3.frozen 1; have g2 := R3.frozen 2; have f0 := (hb3.cell (p := ⟨g, 0, none⟩) (by show g < _; omega)).trans f0; have a0 := (hb3.cell (p := ⟨ab, ao, none⟩) (by show ab < _; omega)).trans a0; have a1 := (hb3.cell (p := ⟨ab, ao + 1, none⟩) (by show ab < _; omega)).trans a1; have a2 := (hb3.cell (p := ⟨ab, ao + 2, none⟩) (by show ab < _; omega)).trans a2))
  all_goals go_wp2_with fail
  all_goals refine bodyPost_ret (v := .tuple #[.agg #[.int .i64 2, .int .i64 cc, .string ⟨#[]⟩], .bool true]) (by simp [results, Try.results68, go_sem, r0, r1, r2]) rfl ⟨rfl, ?_⟩
  all_goals (have b3 := B1.trans (h3.mono (by omega)))
  all_goals exact ((b3.setCell (by simp) _).setCell (by simp) _).setCell (by simp) _
set_option maxRecDepth 100000 in
set_option maxHeartbeats 4000000 in
theorem rule12_any (a : Vu) (A : Option Addr) (c : Nat) (P : Value) (g B : Nat) (w : World) (hin : Vu.E.LIn w B A c [a]) (hB : B ≤ w.heap.size) (hg : g < w.heap.size) (hf : w.cell? ⟨g, 0, none⟩ = some (.func (.func 64) #[] #[])) :
    Calls Try.prog 68 #[.slice A 1 c, P, .pointer (some ⟨g, 0, none⟩)] w fun e w' => e = .returned (.tuple #[.agg #[.int .i64 2, .int .i64 (if (a.k == 2 && (a.n == 0 && a.t.toList == [])) = true then 1 else 0), .string ⟨#[]⟩], .bool true]) ∧ Below w.heap.size w w' := by
  obtain ⟨ab, ao, rfl, hab, a0, a1, a2, _⟩ := Vu.at_ hin (i := 0) (x := a) rfl
  simp only [Nat.zero_mul, Nat.add_zero] at a0 a1 a2
  obtain ⟨W1, hW1⟩ : ∃ W1, W1 = w.alloc (.cells #[.int .i64 0, .int .i64 0, .string ⟨#[]⟩] 27) := ⟨_, rfl⟩
  have B1 : Below w.heap.size w W1 := by rw [hW1]; exact (Below.refl _ _).alloc (Nat.le_refl _) _
  have z1 : w.heap.size < W1.heap.size := by rw [hW1]; simp
  have R0 : D.Blk W1 w.heap.size 27 #[.int .i64 0, .int .i64 0, .string ⟨#[]⟩] := by rw [hW1]; exact D.Blk.new _ _ _
  have a0 := (B1.cell (p := ⟨ab, ao, none⟩) (show ab < _ by omega)).trans a0
  have a1 := (B1.cell (p := ⟨ab, ao + 1, none⟩) (show ab < _ by omega)).trans a1
  have a2 := (B1.cell (p := ⟨ab, ao + 2, none⟩) (show ab < _ by omega)).trans a2
  have f0 := (B1.cell (p := ⟨g, 0, none⟩) hg).trans hf
  have la : ab < W1.heap.size := by omega
  have lg : g < W1.heap.size := by omega
  have nz : ab ≠ w.heap.size := by omega
  have ng : g ≠ w.heap.size := by omega
  obtain ⟨X, hX⟩ : ∃ X, X = (a.k == 2 && (a.n == 0 && a.t.toList == [])) := ⟨_, rfl⟩
  have HT : Hid (∀ u, Calls Try.prog 64 #[.agg #[.int .i64 a.k, .int .i64 a.n, .string a.t]] u fun e w' => e = .returned (.bool X) ∧ Below u.heap.size u w') := fun u => by rw [hX]; exact isFalse_any a u
  rw [← hX]
  clear hX hf
  obtain ⟨cc, hcc⟩ : ∃ cc : Int, cc = (if X = true then 1 else 0) := ⟨_, rfl⟩
  have HB : Hid (∀ u, Calls Try.prog 54 #[.bool X] u fun e w' => e = .returned (.agg #[.int .i64 2, .int .i64 cc, .string ⟨#[]⟩]) ∧ Below u.heap.size u w') := fun u => by rw [hcc]; exact booleanValue_any X u
  rw [← hcc]
  clear hcc
  go_enter Try.func68, Try.ntmps68
  go_upto_region 1 with fail
  rw [← hW1]
  clear hW1
  have tok0 : True := trivial
  have tok1 : True := trivial
  go_region_held3 (fun w' => w'.cell? ⟨g, 0, none⟩ = some (.func (.func 64) #[] #[]) ∧ w'.cell? ⟨ab, ao, none⟩ = some (.int .i64 a.k) ∧ w'.cell? ⟨ab, ao + 1, none⟩ = some (.int .i64 a.n) ∧ w'.cell? ⟨ab, ao + 2, none⟩ = some (.string a.t)) (first | go_keep | (refine ⟨?_, ?_, ?_, ?_⟩ <;> (first | (rw [far3 nz]; assumption) | (rw [far3 ng]; assumption)))) (first
    | (go_at_call 64; have _t := tok0; (with_reducible refine (HT.out _).mono ?_); rintro e w2 ⟨rfl, hb2⟩; clear tok0; have h2 : Below W1.heap.size W1 w2 := below_undrew hb2; have z2 := h2.size; have f0 := (h2.cell (p := ⟨g, 0, none⟩) lg).trans f0; have a0 := (h2.cell (p := ⟨ab, ao, none⟩) la).trans a0; have a1 := (h2.cell (p := ⟨ab, ao + 1, none⟩) la).trans a1; have a2 := (h2.cell (p := ⟨ab, ao + 2, none⟩) la).trans a2)
    | (go_at_call 54; have _t := tok1; (with_reducible refine (HB.out _).mono ?_); rintro e w3 ⟨rfl, hb3⟩; clear tok1; have h3 : Below W1.heap.size W1 w3 := h2.trans (hb3.mono z2); have R3 := R0.below h3 z1; have r0 : World.cell? w3 ⟨w.heap.size, 0, none⟩ = some (.int .i64 0) := R3.cell 0; have r1 : World.cell? w3 ⟨w.heap.size, 1, none⟩ = some (.int .i64 0) := R3.cell 1; have r2 : World.cell? w3 ⟨w.heap.size, 2, none⟩ = some (.string ⟨#[]⟩) := R3.cell 2; have g0 := R3.frozen 0; have g1 := R3.frozen 1; have g2 := R3.frozen 2; have f0 := (hb3.cell (p := ⟨g, 0, none⟩) (by show g < _; omega)).trans f0; have a0 := (hb3.cell (p := ⟨ab, ao, none⟩) (by show ab < _; omega)).trans a0; have a1 := (hb3.cell (p := ⟨ab, ao + 1, none⟩) (by show ab < _; omega)).trans a1; have a2 := (hb3.cell (p := ⟨ab, ao + 2, none⟩) (by show ab < _; omega)).trans a2))
  all_goals go_wp2_with fail
  all_goals refine bodyPost_ret (v := .tuple #[.agg #[.int .i64 2, .int .i64 cc, .string ⟨#[]⟩], .bool true]) (by simp [results, Try.results68, go_sem, r0, r1, r2]) rfl ⟨rfl, ?_⟩
  all_goals (have b3 := B1.trans (h3.mono (by omega)))
  all_goals exact ((b3.setCell (by simp) _).setCell (by simp) _).setCell (by simp) _
end Go.Proofs.Ytnldlbglgalbaab
