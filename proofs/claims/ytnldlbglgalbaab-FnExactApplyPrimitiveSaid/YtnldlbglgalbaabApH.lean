/-
  The model's l8Bool, l8False, l8Numbers (written by gen/app8.py).
-/
import Derived.Test.YtnldlbglgalbaabApG
namespace Go.Proofs.Ytnldlbglgalbaab
open Go.RowKit
theorem out_num (p x : Int) : outP p (some (.num x)) = if -999999999 ≤ x ∧ x ≤ 999999999 then (⟨3, x, ⟨#[]⟩⟩, ⟨#[]⟩) else (.zero, large) := by
  unfold outP Vu.num
  by_cases h : -999999999 ≤ x ∧ x ≤ 999999999
  · rw [if_pos h]; exact if_neg fun g => g.2 h
  · rw [if_neg h]; exact if_pos ⟨rfl, h⟩
theorem out_boo (p : Int) (b : Bool) : outP p (some (.boo b)) = (⟨2, if b = true then 1 else 0, ⟨#[]⟩⟩, ⟨#[]⟩) := by
  unfold outP Vu.boo
  exact if_neg fun g => by simp at g
theorem mul_fits {a b : Int} (ha : -999999999 ≤ a ∧ a ≤ 999999999) (hb : -999999999 ≤ b ∧ b ≤ 999999999) : -1000000000000000000 ≤ a * b ∧ a * b ≤ 1000000000000000000 := by
    have h1 : a.natAbs ≤ 999999999 := by omega
    have h2 : b.natAbs ≤ 999999999 := by omega
    have h3 : (a * b).natAbs ≤ 999999999 * 999999999 := by rw [Int.natAbs_mul]; exact Nat.mul_le_mul h1 h2
    omega
set_option maxRecDepth 100000 in
set_option maxHeartbeats 4000000 in
theorem l8Bool_true (w : World) : Calls Try.prog 34 #[.bool true] w fun e w' => e = .returned (.agg #[.int .i64 2, .int .i64 1, .string ⟨#[]⟩]) ∧ Below w.heap.size w w' := by
  obtain ⟨W1, hW1⟩ : ∃ W1, W1 = w.alloc (.cells #[.int .i64 0, .int .i64 0, .string ⟨#[]⟩] 27) := ⟨_, rfl⟩
  have B1 : Below w.heap.size w W1 := by rw [hW1]; exact (Below.refl _ _).alloc (Nat.le_refl _) _
  have z1 : w.heap.size < W1.heap.size := by rw [hW1]; simp
  have R0 : D.Blk W1 w.heap.size 27 #[.int .i64 0, .int .i64 0, .string ⟨#[]⟩] := by rw [hW1]; exact D.Blk.new _ _ _
  go_enter Try.func34, Try.ntmps34
  go_upto_region 1 with fail
  rw [← hW1]
  clear hW1
  have r0 : World.cell? W1 ⟨w.heap.size, 0, none⟩ = some (.int .i64 0) := R0.cell 0; have r1 : World.cell? W1 ⟨w.heap.size, 1, none⟩ = some (.int .i64 0) := R0.cell 1; have r2 : World.cell? W1 ⟨w.heap.size, 2, none⟩ = some (.string ⟨#[]⟩) := R0.cell 2; have g0 := R0.frozen 0; have g1 := R0.frozen 1; have g2 := R0.frozen 2
  go_wp2_with fail
  refine bodyPost_ret (v := .agg #[.int .i64 2, .int .i64 1, .string ⟨#[]⟩]) (by simp [results, Try.results34, go_sem, r0, r1, r2]) rfl ⟨rfl, ?_⟩
  exact ((B1.setCell (by simp) _).setCell (by simp) _).setCell (by simp) _
set_option maxRecDepth 100000 in
set_option maxHeartbeats 4000000 in
theorem l8Bool_false (w : World) : Calls Try.prog 34 #[.bool false] w fun e w' => e = .returned (.agg #[.int .i64 2, .int .i64 0, .string ⟨#[]⟩]) ∧ Below w.heap.size w w' := by
  obtain ⟨W1, hW1⟩ : ∃ W1, W1 = w.alloc (.cells #[.int .i64 0, .int .i64 0, .string ⟨#[]⟩] 27) := ⟨_, rfl⟩
  have B1 : Below w.heap.size w W1 := by rw [hW1]; exact (Below.refl _ _).alloc (Nat.le_refl _) _
  have z1 : w.heap.size < W1.heap.size := by rw [hW1]; simp
  have R0 : D.Blk W1 w.heap.size 27 #[.int .i64 0, .int .i64 0, .string ⟨#[]⟩] := by rw [hW1]; exact D.Blk.new _ _ _
  go_enter Try.func34, Try.ntmps34
  go_upto_region 1 with fail
  rw [← hW1]
  clear hW1
  have r0 : World.cell? W1 ⟨w.heap.size, 0, none⟩ = some (.int .i64 0) := R0.cell 0; have r1 : World.cell? W1 ⟨w.heap.size, 1, none⟩ = some (.int .i64 0) := R0.cell 1; have r2 : World.cell? W1 ⟨w.heap.size, 2, none⟩ = some (.string ⟨#[]⟩) := R0.cell 2; have g0 := R0.frozen 0; have g1 := R0.frozen 1; have g2 := R0.frozen 2
  go_wp2_with fail
  refine bodyPost_ret (v := .agg #[.int .i64 2, .int .i64 0, .string ⟨#[]⟩]) (by simp [results, Try.results34, go_sem, r0, r1, r2]) rfl ⟨rfl, ?_⟩
  exact ((B1.setCell (by simp) _).setCell (by simp) _).setCell (by simp) _
theorem l8Bool_any (b : Bool) (w : World) : Calls Try.prog 34 #[.bool b] w fun e w' => e = .returned (.agg #[.int .i64 2, .int .i64 (if b = true then 1 else 0), .string ⟨#[]⟩]) ∧ Below w.heap.size w w' := by
  cases b
  · exact l8Bool_false w
  · exact l8Bool_true w
set_option maxRecDepth 100000 in
set_option maxHeartbeats 4000000 in
theorem l8False_any (v : Vu) (w : World) : Calls Try.prog 35 #[.agg #[.int .i64 v.k, .int .i64 v.n, .string v.t]] w fun e w' => e = .returned (.bool (v.k == 2 && v.n == 0)) ∧ Below w.heap.size w w' := by
  obtain ⟨W1, hW1⟩ : ∃ W1, W1 = w.alloc (.cells #[.int .i64 v.k, .int .i64 v.n, .string v.t] 27) := ⟨_, rfl⟩
  have b1 : Below w.heap.size w W1 := by rw [hW1]; exact (Below.refl _ _).alloc (Nat.le_refl _) _
  have X1 : Vu.Box W1 w.heap.size v := by rw [hW1]; exact Vu.Box.new _ _ _
  obtain ⟨x0, x1, x2⟩ := X1
  cases q1 : (v.k == 2)
  · go_enter Try.func35, Try.ntmps35
    go_upto_region 1 with fail
    rw [← hW1]
    clear hW1
    go_wp2_with fail
    go_ret
    exact ⟨rfl, b1⟩
  · cases q2 : (v.n == 0)
    · go_enter Try.func35, Try.ntmps35
      go_upto_region 1 with fail
      rw [← hW1]
      clear hW1
      go_wp2_with fail
      go_ret
      exact ⟨rfl, b1⟩
    · go_enter Try.func35, Try.ntmps35
      go_upto_region 1 with fail
      rw [← hW1]
      clear hW1
      go_wp2_with fail
      go_ret
      exact ⟨rfl, b1⟩
set_option maxRecDepth 100000 in
set_option maxHeartbeats 4000000 in
theorem l8Num0 (a b : Vu) (ha : -999999999 ≤ a.n ∧ a.n ≤ 999999999) (hb : -999999999 ≤ b.n ∧ b.n ≤ 999999999) (w : World) :
    Calls Try.prog 33 #[.int .i64 0, .int .i64 a.n, .int .i64 b.n] w fun e w' => e = .returned (ansV (outP 0 (some (twoN 0 a b)))) ∧ Below w.heap.size w w' := by
  obtain ⟨V, hV⟩ : ∃ V, V = outP 0 (some (twoN 0 a b)) := ⟨_, rfl⟩
  rw [← hV]
  obtain ⟨x, hx⟩ : ∃ x, x = a.n + b.n := ⟨_, rfl⟩
  have e0 : IntKind.i64.wrap (a.n + b.n) = x := by rw [hx]; exact IntWalk.i64_in _ (by omega)
  have HV : Hid (V = if -999999999 ≤ x ∧ x ≤ 999999999 then (⟨3, x, ⟨#[]⟩⟩, ⟨#[]⟩) else (.zero, large)) := by rw [hx]; exact hV.trans (out_num 0 _)
  clear hV hx ha hb 
  obtain ⟨W1, hW1⟩ : ∃ W1, W1 = w.alloc (.cells #[.int .i64 0, .int .i64 0, .string ⟨#[]⟩] 27) := ⟨_, rfl⟩
  have B1 : Below w.heap.size w W1 := by rw [hW1]; exact (Below.refl _ _).alloc (Nat.le_refl _) _
  have z1 : w.heap.size < W1.heap.size := by rw [hW1]; simp
  have R0 : D.Blk W1 w.heap.size 27 #[.int .i64 0, .int .i64 0, .string ⟨#[]⟩] := by rw [hW1]; exact D.Blk.new _ _ _
  go_enter Try.func33, Try.ntmps33
  go_upto_region 1 with fail
  rw [← hW1]
  clear hW1
  have r0 : World.cell? W1 ⟨w.heap.size, 0, none⟩ = some (.int .i64 0) := R0.cell 0; have r1 : World.cell? W1 ⟨w.heap.size, 1, none⟩ = some (.int .i64 0) := R0.cell 1; have r2 : World.cell? W1 ⟨w.heap.size, 2, none⟩ = some (.string ⟨#[]⟩) := R0.cell 2; have g0 := R0.frozen 0; have g1 := R0.frozen 1; have g2 := R0.frozen 2
  go_wp2_with fail
  (try rw [e0])
  (with_reducible refine (l1In_any x (-999999999) 999999999 W1).mono ?_)
  rintro e w1 ⟨rfl, rfl⟩
  by_cases hn : -999999999 ≤ x ∧ x ≤ 999999999
  · have HQ : Hid (V = (⟨3, x, ⟨#[]⟩⟩, ⟨#[]⟩)) := HV.out.trans (if_pos hn)
    rw [decide_eq_true hn]
    clear hn HV
    go_wp2_with fail
    refine bodyPost_ret (v := .tuple #[.agg #[.int .i64 3, .int .i64 x, .string ⟨#[]⟩], .string ⟨#[]⟩]) (by simp [results, Try.results33, go_sem, r0, r1, r2]) rfl ⟨by rw [HQ.out]; rfl, ?_⟩
    exact ((B1.setCell (by simp) _).setCell (by simp) _).setCell (by simp) _
  · have HQ : Hid (V = (.zero, large)) := HV.out.trans (if_neg hn)
    rw [decide_eq_false hn]
    clear hn HV
    go_wp2_with fail
    refine bodyPost_ret (v := .tuple #[.agg #[.int .i64 0, .int .i64 0, .string ⟨#[]⟩], .string ⟨#[110, 117, 109, 98, 101, 114, 32, 116, 111, 111, 32, 108, 97, 114, 103, 101]⟩]) (by simp [results, Try.results33, go_sem, r0, r1, r2]) rfl ⟨by rw [HQ.out]; rfl, ?_⟩
    exact ((B1.setCell (by simp) _).setCell (by simp) _).setCell (by simp) _
set_option maxRecDepth 100000 in
set_option maxHeartbeats 4000000 in
theorem l8Num1 (a b : Vu) (ha : -999999999 ≤ a.n ∧ a.n ≤ 999999999) (hb : -999999999 ≤ b.n ∧ b.n ≤ 999999999) (w : World) :
    Calls Try.prog 33 #[.int .i64 1, .int .i64 a.n, .int .i64 b.n] w fun e w' => e = .returned (ansV (outP 1 (some (twoN 1 a b)))) ∧ Below w.heap.size w w' := by
  obtain ⟨V, hV⟩ : ∃ V, V = outP 1 (some (twoN 1 a b)) := ⟨_, rfl⟩
  rw [← hV]
  obtain ⟨x, hx⟩ : ∃ x, x = a.n - b.n := ⟨_, rfl⟩
  have e0 : IntKind.i64.wrap (a.n - b.n) = x := by rw [hx]; exact IntWalk.i64_in _ (by omega)
  have HV : Hid (V = if -999999999 ≤ x ∧ x ≤ 999999999 then (⟨3, x, ⟨#[]⟩⟩, ⟨#[]⟩) else (.zero, large)) := by rw [hx]; exact hV.trans (out_num 1 _)
  clear hV hx ha hb 
  obtain ⟨W1, hW1⟩ : ∃ W1, W1 = w.alloc (.cells #[.int .i64 0, .int .i64 0, .string ⟨#[]⟩] 27) := ⟨_, rfl⟩
  have B1 : Below w.heap.size w W1 := by rw [hW1]; exact (Below.refl _ _).alloc (Nat.le_refl _) _
  have z1 : w.heap.size < W1.heap.size := by rw [hW1]; simp
  have R0 : D.Blk W1 w.heap.size 27 #[.int .i64 0, .int .i64 0, .string ⟨#[]⟩] := by rw [hW1]; exact D.Blk.new _ _ _
  go_enter Try.func33, Try.ntmps33
  go_upto_region 1 with fail
  rw [← hW1]
  clear hW1
  have r0 : World.cell? W1 ⟨w.heap.size, 0, none⟩ = some (.int .i64 0) := R0.cell 0; have r1 : World.cell? W1 ⟨w.heap.size, 1, none⟩ = some (.int .i64 0) := R0.cell 1; have r2 : World.cell? W1 ⟨w.heap.size, 2, none⟩ = some (.string ⟨#[]⟩) := R0.cell 2; have g0 := R0.frozen 0; have g1 := R0.frozen 1; have g2 := R0.frozen 2
  go_wp2_with fail
  (try rw [e0])
  (with_reducible refine (l1In_any x (-999999999) 999999999 W1).mono ?_)
  rintro e w1 ⟨rfl, rfl⟩
  by_cases hn : -999999999 ≤ x ∧ x ≤ 999999999
  · have HQ : Hid (V = (⟨3, x, ⟨#[]⟩⟩, ⟨#[]⟩)) := HV.out.trans (if_pos hn)
    rw [decide_eq_true hn]
    clear hn HV
    go_wp2_with fail
    refine bodyPost_ret (v := .tuple #[.agg #[.int .i64 3, .int .i64 x, .string ⟨#[]⟩], .string ⟨#[]⟩]) (by simp [results, Try.results33, go_sem, r0, r1, r2]) rfl ⟨by rw [HQ.out]; rfl, ?_⟩
    exact ((B1.setCell (by simp) _).setCell (by simp) _).setCell (by simp) _
  · have HQ : Hid (V = (.zero, large)) := HV.out.trans (if_neg hn)
    rw [decide_eq_false hn]
    clear hn HV
    go_wp2_with fail
    refine bodyPost_ret (v := .tuple #[.agg #[.int .i64 0, .int .i64 0, .string ⟨#[]⟩], .string ⟨#[110, 117, 109, 98, 101, 114, 32, 116, 111, 111, 32, 108, 97, 114, 103, 101]⟩]) (by simp [results, Try.results33, go_sem, r0, r1, r2]) rfl ⟨by rw [HQ.out]; rfl, ?_⟩
    exact ((B1.setCell (by simp) _).setCell (by simp) _).setCell (by simp) _
set_option maxRecDepth 100000 in
set_option maxHeartbeats 4000000 in
theorem l8Num2 (a b : Vu) (ha : -999999999 ≤ a.n ∧ a.n ≤ 999999999) (hb : -999999999 ≤ b.n ∧ b.n ≤ 999999999) (w : World) :
    Calls Try.prog 33 #[.int .i64 2, .int .i64 a.n, .int .i64 b.n] w fun e w' => e = .returned (ansV (outP 2 (some (twoN 2 a b)))) ∧ Below w.heap.size w w' := by
  obtain ⟨V, hV⟩ : ∃ V, V = outP 2 (some (twoN 2 a b)) := ⟨_, rfl⟩
  rw [← hV]
  have hmul : -1000000000000000000 ≤ a.n * b.n ∧ a.n * b.n ≤ 1000000000000000000 := mul_fits ha hb
  obtain ⟨x, hx⟩ : ∃ x, x = a.n * b.n := ⟨_, rfl⟩
  have e0 : IntKind.i64.wrap (a.n * b.n) = x := by rw [hx]; exact IntWalk.i64_in _ (by omega)
  have HV : Hid (V = if -999999999 ≤ x ∧ x ≤ 999999999 then (⟨3, x, ⟨#[]⟩⟩, ⟨#[]⟩) else (.zero, large)) := by rw [hx]; exact hV.trans (out_num 2 _)
  clear hV hx ha hb hmul
  obtain ⟨W1, hW1⟩ : ∃ W1, W1 = w.alloc (.cells #[.int .i64 0, .int .i64 0, .string ⟨#[]⟩] 27) := ⟨_, rfl⟩
  have B1 : Below w.heap.size w W1 := by rw [hW1]; exact (Below.refl _ _).alloc (Nat.le_refl _) _
  have z1 : w.heap.size < W1.heap.size := by rw [hW1]; simp
  have R0 : D.Blk W1 w.heap.size 27 #[.int .i64 0, .int .i64 0, .string ⟨#[]⟩] := by rw [hW1]; exact D.Blk.new _ _ _
  go_enter Try.func33, Try.ntmps33
  go_upto_region 1 with fail
  rw [← hW1]
  clear hW1
  have r0 : World.cell? W1 ⟨w.heap.size, 0, none⟩ = some (.int .i64 0) := R0.cell 0; have r1 : World.cell? W1 ⟨w.heap.size, 1, none⟩ = some (.int .i64 0) := R0.cell 1; have r2 : World.cell? W1 ⟨w.heap.size, 2, none⟩ = some (.string ⟨#[]⟩) := R0.cell 2; have g0 := R0.frozen 0; have g1 := R0.frozen 1; have g2 := R0.frozen 2
  go_wp2_with fail
  (try rw [e0])
  (with_reducible refine (l1In_any x (-999999999) 999999999 W1).mono ?_)
  rintro e w1 ⟨rfl, rfl⟩
  by_cases hn : -999999999 ≤ x ∧ x ≤ 999999999
  · have HQ : Hid (V = (⟨3, x, ⟨#[]⟩⟩, ⟨#[]⟩)) := HV.out.trans (if_pos hn)
    rw [decide_eq_true hn]
    clear hn HV
    go_wp2_with fail
    refine bodyPost_ret (v := .tuple #[.agg #[.int .i64 3, .int .i64 x, .string ⟨#[]⟩], .string ⟨#[]⟩]) (by simp [results, Try.results33, go_sem, r0, r1, r2]) rfl ⟨by rw [HQ.out]; rfl, ?_⟩
    exact ((B1.setCell (by simp) _).setCell (by simp) _).setCell (by simp) _
  · have HQ : Hid (V = (.zero, large)) := HV.out.trans (if_neg hn)
    rw [decide_eq_false hn]
    clear hn HV
    go_wp2_with fail
    refine bodyPost_ret (v := .tuple #[.agg #[.int .i64 0, .int .i64 0, .string ⟨#[]⟩], .string ⟨#[110, 117, 109, 98, 101, 114, 32, 116, 111, 111, 32, 108, 97, 114, 103, 101]⟩]) (by simp [results, Try.results33, go_sem, r0, r1, r2]) rfl ⟨by rw [HQ.out]; rfl, ?_⟩
    exact ((B1.setCell (by simp) _).setCell (by simp) _).setCell (by simp) _
set_option maxRecDepth 100000 in
set_option maxHeartbeats 4000000 in
theorem l8Num3 (a b : Vu) (ha : -999999999 ≤ a.n ∧ a.n ≤ 999999999) (hb : -999999999 ≤ b.n ∧ b.n ≤ 999999999) (w : World) :
    Calls Try.prog 33 #[.int .i64 3, .int .i64 a.n, .int .i64 b.n] w fun e w' => e = .returned (ansV (outP 3 (some (twoN 3 a b)))) ∧ Below w.heap.size w w' := by
  obtain ⟨V, hV⟩ : ∃ V, V = outP 3 (some (twoN 3 a b)) := ⟨_, rfl⟩
  rw [← hV]
  obtain ⟨X, hX⟩ : ∃ X, X = (a.n == b.n) := ⟨_, rfl⟩
  obtain ⟨cc, hcc⟩ : ∃ cc : Int, cc = (if X = true then 1 else 0) := ⟨_, rfl⟩
  have HQ : Hid (V = (⟨2, cc, ⟨#[]⟩⟩, ⟨#[]⟩)) := by rw [hcc, hX]; exact hV.trans (out_boo 3 _)
  clear hV
  have HB : Hid (∀ u, Calls Try.prog 34 #[.bool (a.n == b.n)] u fun e w' => e = .returned (.agg #[.int .i64 2, .int .i64 cc, .string ⟨#[]⟩]) ∧ Below u.heap.size u w') := fun u => by rw [← hX, hcc]; exact l8Bool_any X u
  clear hX ha hb hcc
  obtain ⟨W1, hW1⟩ : ∃ W1, W1 = w.alloc (.cells #[.int .i64 0, .int .i64 0, .string ⟨#[]⟩] 27) := ⟨_, rfl⟩
  have B1 : Below w.heap.size w W1 := by rw [hW1]; exact (Below.refl _ _).alloc (Nat.le_refl _) _
  have z1 : w.heap.size < W1.heap.size := by rw [hW1]; simp
  have R0 : D.Blk W1 w.heap.size 27 #[.int .i64 0, .int .i64 0, .string ⟨#[]⟩] := by rw [hW1]; exact D.Blk.new _ _ _
  go_enter Try.func33, Try.ntmps33
  go_upto_region 1 with fail
  rw [← hW1]
  clear hW1
  have r0 : World.cell? W1 ⟨w.heap.size, 0, none⟩ = some (.int .i64 0) := R0.cell 0; have r1 : World.cell? W1 ⟨w.heap.size, 1, none⟩ = some (.int .i64 0) := R0.cell 1; have r2 : World.cell? W1 ⟨w.heap.size, 2, none⟩ = some (.string ⟨#[]⟩) := R0.cell 2; have g0 := R0.frozen 0; have g1 := R0.frozen 1; have g2 := R0.frozen 2
  clear r0 r1 r2 g0 g1 g2
  go_wp2_with fail
  (with_reducible refine (HB.out W1).mono ?_)
  rintro e w1 ⟨rfl, hb1⟩
  have b1 : Below w.heap.size w w1 := B1.trans (hb1.mono (by omega))
  have R1 := R0.below hb1 z1
  have r0 : World.cell? w1 ⟨w.heap.size, 0, none⟩ = some (.int .i64 0) := R1.cell 0; have r1 : World.cell? w1 ⟨w.heap.size, 1, none⟩ = some (.int .i64 0) := R1.cell 1; have r2 : World.cell? w1 ⟨w.heap.size, 2, none⟩ = some (.string ⟨#[]⟩) := R1.cell 2; have g0 := R1.frozen 0; have g1 := R1.frozen 1; have g2 := R1.frozen 2
  go_wp2_with fail
  refine bodyPost_ret (v := .tuple #[.agg #[.int .i64 2, .int .i64 cc, .string ⟨#[]⟩], .string ⟨#[]⟩]) (by simp [results, Try.results33, go_sem, r0, r1, r2]) rfl ⟨by rw [HQ.out]; rfl, ?_⟩
  exact ((b1.setCell (by simp) _).setCell (by simp) _).setCell (by simp) _
set_option maxRecDepth 100000 in
set_option maxHeartbeats 4000000 in
theorem l8Num4 (a b : Vu) (ha : -999999999 ≤ a.n ∧ a.n ≤ 999999999) (hb : -999999999 ≤ b.n ∧ b.n ≤ 999999999) (w : World) :
    Calls Try.prog 33 #[.int .i64 4, .int .i64 a.n, .int .i64 b.n] w fun e w' => e = .returned (ansV (outP 4 (some (twoN 4 a b)))) ∧ Below w.heap.size w w' := by
  obtain ⟨V, hV⟩ : ∃ V, V = outP 4 (some (twoN 4 a b)) := ⟨_, rfl⟩
  rw [← hV]
  obtain ⟨X, hX⟩ : ∃ X, X = (decide (a.n < b.n)) := ⟨_, rfl⟩
  obtain ⟨cc, hcc⟩ : ∃ cc : Int, cc = (if X = true then 1 else 0) := ⟨_, rfl⟩
  have HQ : Hid (V = (⟨2, cc, ⟨#[]⟩⟩, ⟨#[]⟩)) := by rw [hcc, hX]; exact hV.trans (out_boo 4 _)
  clear hV
  have HB : Hid (∀ u, Calls Try.prog 34 #[.bool (decide (a.n < b.n))] u fun e w' => e = .returned (.agg #[.int .i64 2, .int .i64 cc, .string ⟨#[]⟩]) ∧ Below u.heap.size u w') := fun u => by rw [← hX, hcc]; exact l8Bool_any X u
  clear hX ha hb hcc
  obtain ⟨W1, hW1⟩ : ∃ W1, W1 = w.alloc (.cells #[.int .i64 0, .int .i64 0, .string ⟨#[]⟩] 27) := ⟨_, rfl⟩
  have B1 : Below w.heap.size w W1 := by rw [hW1]; exact (Below.refl _ _).alloc (Nat.le_refl _) _
  have z1 : w.heap.size < W1.heap.size := by rw [hW1]; simp
  have R0 : D.Blk W1 w.heap.size 27 #[.int .i64 0, .int .i64 0, .string ⟨#[]⟩] := by rw [hW1]; exact D.Blk.new _ _ _
  go_enter Try.func33, Try.ntmps33
  go_upto_region 1 with fail
  rw [← hW1]
  clear hW1
  have r0 : World.cell? W1 ⟨w.heap.size, 0, none⟩ = some (.int .i64 0) := R0.cell 0; have r1 : World.cell? W1 ⟨w.heap.size, 1, none⟩ = some (.int .i64 0) := R0.cell 1; have r2 : World.cell? W1 ⟨w.heap.size, 2, none⟩ = some (.string ⟨#[]⟩) := R0.cell 2; have g0 := R0.frozen 0; have g1 := R0.frozen 1; have g2 := R0.frozen 2
  clear r0 r1 r2 g0 g1 g2
  go_wp2_with fail
  (with_reducible refine (HB.out W1).mono ?_)
  rintro e w1 ⟨rfl, hb1⟩
  have b1 : Below w.heap.size w w1 := B1.trans (hb1.mono (by omega))
  have R1 := R0.below hb1 z1
  have r0 : World.cell? w1 ⟨w.heap.size, 0, none⟩ = some (.int .i64 0) := R1.cell 0; have r1 : World.cell? w1 ⟨w.heap.size, 1, none⟩ = some (.int .i64 0) := R1.cell 1; have r2 : World.cell? w1 ⟨w.heap.size, 2, none⟩ = some (.string ⟨#[]⟩) := R1.cell 2; have g0 := R1.frozen 0; have g1 := R1.frozen 1; have g2 := R1.frozen 2
  go_wp2_with fail
  refine bodyPost_ret (v := .tuple #[.agg #[.int .i64 2, .int .i64 cc, .string ⟨#[]⟩], .string ⟨#[]⟩]) (by simp [results, Try.results33, go_sem, r0, r1, r2]) rfl ⟨by rw [HQ.out]; rfl, ?_⟩
  exact ((b1.setCell (by simp) _).setCell (by simp) _).setCell (by simp) _
end Go.Proofs.Ytnldlbglgalbaab
