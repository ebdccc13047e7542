/-
  applyPure (written by gen/app4.py).
-/
import Derived.Test.YtnldlbglgalbaabApC
import Derived.Test.YtnldlbglgalbaabArA
import Derived.Test.YtnldlbglgalbaabWords
namespace Go.Proofs.Ytnldlbglgalbaab
open Go.RowKit
set_option maxRecDepth 100000 in
set_option maxHeartbeats 4000000 in
theorem iprimN_x (w : World) : Calls Try.prog 41 #[] w fun e w' => e = .returned (.slice (some ⟨w.heap.size, 0, none⟩) 14 14) ∧ D.Blk w' w.heap.size 9 #[.string ⟨#[43]⟩, .string ⟨#[45]⟩, .string ⟨#[42]⟩, .string ⟨#[61]⟩, .string ⟨#[60]⟩, .string ⟨#[99, 111, 110, 115]⟩, .string ⟨#[99, 97, 114]⟩, .string ⟨#[99, 100, 114]⟩, .string ⟨#[110, 117, 108, 108, 63]⟩, .string ⟨#[112, 97, 105, 114, 63]⟩, .string ⟨#[110, 117, 109, 98, 101, 114, 63]⟩, .string ⟨#[101, 113, 63]⟩, .string ⟨#[110, 111, 116]⟩, .string ⟨#[100, 105, 115, 112, 108, 97, 121]⟩] ∧ Below w.heap.size w w' := by
  go_enter Try.func41, Try.ntmps41
  go_wp2_with fail
  go_ret
  exact ⟨rfl, D.Blk.new _ _ _, (Below.refl _ _).alloc (Nat.le_refl _) _⟩
theorem pure0_cat : (⟨#[43]⟩ : ByteArray) ++ ⟨#[58, 32, 98, 97, 100, 32, 97, 114, 103, 117, 109, 101, 110, 116]⟩ = ⟨#[43, 58, 32, 98, 97, 100, 32, 97, 114, 103, 117, 109, 101, 110, 116]⟩ := by decide
set_option maxRecDepth 100000 in
set_option maxHeartbeats 4000000 in
theorem pure0_no (A Q : Value) (w : World) (HR : Hid (∀ (h : Nat) (u : World), Below w.heap.size w u → h < u.heap.size → u.cell? ⟨h, 0, none⟩ = some (.func (.func 49) #[] #[]) → Calls Try.prog 66 #[A, Q, .pointer (some ⟨h, 0, none⟩)] u fun e w' => e = .returned (.tuple #[.agg #[.int .i64 0, .int .i64 0, .string ⟨#[]⟩], .bool false]) ∧ Below u.heap.size u w')) :
    Calls Try.prog 27 #[.int .i64 0, A, Q] w fun e w' => e = .returned (.tuple #[.agg #[.int .i64 0, .int .i64 0, .string ⟨#[]⟩], .string ⟨#[43, 58, 32, 98, 97, 100, 32, 97, 114, 103, 117, 109, 101, 110, 116]⟩]) ∧ Below w.heap.size w w' := by
  obtain ⟨W1, hW1⟩ : ∃ W1, W1 = w.alloc (.cells #[.int .i64 0, .int .i64 0, .string ⟨#[]⟩] 27) := ⟨_, rfl⟩
  have B1 : Below w.heap.size w W1 := by rw [hW1]; exact (Below.refl _ _).alloc (Nat.le_refl _) _
  have z1 : w.heap.size < W1.heap.size := by rw [hW1]; simp
  have R0 : D.Blk W1 w.heap.size 27 #[.int .i64 0, .int .i64 0, .string ⟨#[]⟩] := by rw [hW1]; exact D.Blk.new _ _ _
  go_enter Try.func27, Try.ntmps27
  go_upto_region 1 with fail
  rw [← hW1]
  clear hW1
  go_wp2_with fail
  (with_reducible refine (primRules_any W1).mono ?_)
  rintro e w2 ⟨g, h0, h1, h2, h3, h4, h6, h7, h8, h9, h10, h12, rfl, HG, hg, u0, u1, u2, u3, u4, u6, u7, u8, u9, u10, u12, hb2⟩
  have c1 : w2.cell? ⟨g, 1, none⟩ = some (.func (.func 66) #[] #[.pointer (some ⟨h0, 0, none⟩)]) := HG.row.cell 1
  have cf := HG.c0
  clear HG
  have R2 := R0.below hb2 z1
  have z2 := hb2.size
  have b2 := B1.trans (hb2.mono (by omega))
  have HC : Hid (Calls Try.prog 66 #[A, Q, .pointer (some ⟨h0, 0, none⟩)] w2 fun e w' => e = .returned (.tuple #[.agg #[.int .i64 0, .int .i64 0, .string ⟨#[]⟩], .bool false]) ∧ Below w2.heap.size w2 w') := HR.out h0 w2 b2 u0 cf
  clear u0 u1 u2 u3 u4 u6 u7 u8 u9 u10 u12 cf HR
  go_wp2_with fail
  (with_reducible refine HC.out.mono ?_)
  rintro e w3 ⟨rfl, hb3⟩
  clear HC c1
  have R3 := R2.below hb3 (by omega)
  have z3 := hb3.size
  have b3 := b2.trans (hb3.mono (by omega))
  go_upto_region 2 with fail
  obtain ⟨W4, hW4⟩ : ∃ W4, W4 = w3.alloc (.cells #[.int .i64 0, .int .i64 0, .string ⟨#[]⟩] 27) := ⟨_, rfl⟩
  rw [← hW4]
  have h4 : Below w3.heap.size w3 W4 := by rw [hW4]; exact (Below.refl _ _).alloc (Nat.le_refl _) _
  have XV : D.Blk W4 w3.heap.size 27 #[.int .i64 0, .int .i64 0, .string ⟨#[]⟩] := by rw [hW4]; exact D.Blk.new _ _ _
  have z4 := h4.size
  clear hW4
  have b4 := b3.trans (h4.mono (by omega))
  have R4 := R3.below h4 (by omega)
  have v0 : W4.cell? ⟨w3.heap.size, 0, none⟩ = some (.int .i64 0) := XV.cell 0
  have v1 : W4.cell? ⟨w3.heap.size, 1, none⟩ = some (.int .i64 0) := XV.cell 1
  have v2 : W4.cell? ⟨w3.heap.size, 2, none⟩ = some (.string ⟨#[]⟩) := XV.cell 2
  have r0 : World.cell? W4 ⟨w.heap.size, 0, none⟩ = some (.int .i64 0) := R4.cell 0; have r1 : World.cell? W4 ⟨w.heap.size, 1, none⟩ = some (.int .i64 0) := R4.cell 1; have r2 : World.cell? W4 ⟨w.heap.size, 2, none⟩ = some (.string ⟨#[]⟩) := R4.cell 2; have g0 := R4.frozen 0; have g1 := R4.frozen 1; have g2 := R4.frozen 2
  clear XV R0 R2 R3 hb2 hb3
  go_wp2_with fail
  go_region_with (first | (go_at_call 41; (with_reducible refine (iprimN_x _).mono ?_); rintro e w5 ⟨rfl, hn5, hb5⟩; have n0 : World.cell? w5 ⟨W4.heap.size, 0, none⟩ = some (.string ⟨#[43]⟩) := hn5.cell 0; have hb6 : Below W4.heap.size W4 w5 := below_undrew hb5; have R5 := R4.below hb6 (by omega); have r0 : World.cell? w5 ⟨w.heap.size, 0, none⟩ = some (.int .i64 0) := R5.cell 0; have r1 : World.cell? w5 ⟨w.heap.size, 1, none⟩ = some (.int .i64 0) := R5.cell 1; have r2 : World.cell? w5 ⟨w.heap.size, 2, none⟩ = some (.string ⟨#[]⟩) := R5.cell 2; have g0 := R5.frozen 0; have g1 := R5.frozen 1; have g2 := R5.frozen 2))
  all_goals go_wp2_with fail
  all_goals refine bodyPost_ret (v := .tuple #[.agg #[.int .i64 0, .int .i64 0, .string ⟨#[]⟩], .string ⟨#[43, 58, 32, 98, 97, 100, 32, 97, 114, 103, 117, 109, 101, 110, 116]⟩]) (by simp [results, Try.results27, go_sem, r0, r1, r2]; (first | done | rfl | exact pure0_cat)) rfl ⟨rfl, ?_⟩
  all_goals (have b5 := b4.trans (hb6.mono (by omega)))
  all_goals exact ((b5.setCell (by simp) _).setCell (by simp) _).setCell (by simp) _
set_option maxRecDepth 100000 in
set_option maxHeartbeats 4000000 in
theorem pure0_yes (k n : Int) (t : ByteArray) (A Q : Value) (w : World) (HR : Hid (∀ (h : Nat) (u : World), Below w.heap.size w u → h < u.heap.size → u.cell? ⟨h, 0, none⟩ = some (.func (.func 49) #[] #[]) → Calls Try.prog 66 #[A, Q, .pointer (some ⟨h, 0, none⟩)] u fun e w' => e = .returned (.tuple #[.agg #[.int .i64 k, .int .i64 n, .string t], .bool true]) ∧ Below u.heap.size u w')) :
    Calls Try.prog 27 #[.int .i64 0, A, Q] w fun e w' => e = .returned ((if k = 3 ∧ ¬ (-999999999 ≤ n ∧ n ≤ 999999999) then .tuple #[.agg #[.int .i64 0, .int .i64 0, .string ⟨#[]⟩], .string ⟨#[110, 117, 109, 98, 101, 114, 32, 116, 111, 111, 32, 108, 97, 114, 103, 101]⟩] else .tuple #[.agg #[.int .i64 k, .int .i64 n, .string t], .string ⟨#[]⟩])) ∧ Below w.heap.size w w' := by
  obtain ⟨W1, hW1⟩ : ∃ W1, W1 = w.alloc (.cells #[.int .i64 0, .int .i64 0, .string ⟨#[]⟩] 27) := ⟨_, rfl⟩
  have B1 : Below w.heap.size w W1 := by rw [hW1]; exact (Below.refl _ _).alloc (Nat.le_refl _) _
  have z1 : w.heap.size < W1.heap.size := by rw [hW1]; simp
  have R0 : D.Blk W1 w.heap.size 27 #[.int .i64 0, .int .i64 0, .string ⟨#[]⟩] := by rw [hW1]; exact D.Blk.new _ _ _
  obtain ⟨V, hV⟩ : ∃ V : Value, V = (if k = 3 ∧ ¬ (-999999999 ≤ n ∧ n ≤ 999999999) then .tuple #[.agg #[.int .i64 0, .int .i64 0, .string ⟨#[]⟩], .string ⟨#[110, 117, 109, 98, 101, 114, 32, 116, 111, 111, 32, 108, 97, 114, 103, 101]⟩] else .tuple #[.agg #[.int .i64 k, .int .i64 n, .string t], .string ⟨#[]⟩]) := ⟨_, rfl⟩
  rw [← hV]
  have HV := Lib.hid hV
  clear hV
  go_enter Try.func27, Try.ntmps27
  go_upto_region 1 with fail
  rw [← hW1]
  clear hW1
  go_wp2_with fail
  (with_reducible refine (primRules_any W1).mono ?_)
  rintro e w2 ⟨g, h0, h1, h2, h3, h4, h6, h7, h8, h9, h10, h12, rfl, HG, hg, u0, u1, u2, u3, u4, u6, u7, u8, u9, u10, u12, hb2⟩
  have c1 : w2.cell? ⟨g, 1, none⟩ = some (.func (.func 66) #[] #[.pointer (some ⟨h0, 0, none⟩)]) := HG.row.cell 1
  have cf := HG.c0
  clear HG
  have R2 := R0.below hb2 z1
  have z2 := hb2.size
  have b2 := B1.trans (hb2.mono (by omega))
  have HC : Hid (Calls Try.prog 66 #[A, Q, .pointer (some ⟨h0, 0, none⟩)] w2 fun e w' => e = .returned (.tuple #[.agg #[.int .i64 k, .int .i64 n, .string t], .bool true]) ∧ Below w2.heap.size w2 w') := HR.out h0 w2 b2 u0 cf
  clear u0 u1 u2 u3 u4 u6 u7 u8 u9 u10 u12 cf HR
  go_wp2_with fail
  (with_reducible refine HC.out.mono ?_)
  rintro e w3 ⟨rfl, hb3⟩
  clear HC c1
  have R3 := R2.below hb3 (by omega)
  have z3 := hb3.size
  have b3 := b2.trans (hb3.mono (by omega))
  go_upto_region 2 with fail
  obtain ⟨W4, hW4⟩ : ∃ W4, W4 = w3.alloc (.cells #[.int .i64 k, .int .i64 n, .string t] 27) := ⟨_, rfl⟩
  rw [← hW4]
  have h4 : Below w3.heap.size w3 W4 := by rw [hW4]; exact (Below.refl _ _).alloc (Nat.le_refl _) _
  have XV : D.Blk W4 w3.heap.size 27 #[.int .i64 k, .int .i64 n, .string t] := by rw [hW4]; exact D.Blk.new _ _ _
  have z4 := h4.size
  clear hW4
  have b4 := b3.trans (h4.mono (by omega))
  have R4 := R3.below h4 (by omega)
  have v0 : W4.cell? ⟨w3.heap.size, 0, none⟩ = some (.int .i64 k) := XV.cell 0
  have v1 : W4.cell? ⟨w3.heap.size, 1, none⟩ = some (.int .i64 n) := XV.cell 1
  have v2 : W4.cell? ⟨w3.heap.size, 2, none⟩ = some (.string t) := XV.cell 2
  have r0 : World.cell? W4 ⟨w.heap.size, 0, none⟩ = some (.int .i64 0) := R4.cell 0; have r1 : World.cell? W4 ⟨w.heap.size, 1, none⟩ = some (.int .i64 0) := R4.cell 1; have r2 : World.cell? W4 ⟨w.heap.size, 2, none⟩ = some (.string ⟨#[]⟩) := R4.cell 2; have g0 := R4.frozen 0; have g1 := R4.frozen 1; have g2 := R4.frozen 2
  clear XV R0 R2 R3 hb2 hb3
  by_cases hk : k = 3
  · by_cases hn : -999999999 ≤ n ∧ n ≤ 999999999
    · have hq : V = (.tuple #[.agg #[.int .i64 k, .int .i64 n, .string t], .string ⟨#[]⟩]) := HV.out.trans (if_neg fun h => h.2 hn)
      have HQ := Lib.hid hq
      clear hq
      have qn := decide_eq_true hn
      have ek : (k == 3) = true := by simp [hk]
      clear hk hn
      go_wp2_with fail
      (with_reducible refine (isNumber_any n W4).mono ?_)
      rintro e w5 ⟨rfl, rfl⟩
      rw [qn]
      go_wp2_with fail
      refine bodyPost_ret (v := .tuple #[.agg #[.int .i64 k, .int .i64 n, .string t], .string ⟨#[]⟩]) (by simp [results, Try.results27, go_sem, r0, r1, r2]) rfl ⟨by rw [HQ.out], ?_⟩
      exact ((b4.setCell (by simp) _).setCell (by simp) _).setCell (by simp) _
    · have hq : V = (.tuple #[.agg #[.int .i64 0, .int .i64 0, .string ⟨#[]⟩], .string ⟨#[110, 117, 109, 98, 101, 114, 32, 116, 111, 111, 32, 108, 97, 114, 103, 101]⟩]) := HV.out.trans (if_pos ⟨hk, hn⟩)
      have HQ := Lib.hid hq
      clear hq
      have qn := decide_eq_false hn
      have ek : (k == 3) = true := by simp [hk]
      clear hk hn
      go_wp2_with fail
      (with_reducible refine (isNumber_any n W4).mono ?_)
      rintro e w5 ⟨rfl, rfl⟩
      rw [qn]
      go_wp2_with fail
      refine bodyPost_ret (v := .tuple #[.agg #[.int .i64 0, .int .i64 0, .string ⟨#[]⟩], .string ⟨#[110, 117, 109, 98, 101, 114, 32, 116, 111, 111, 32, 108, 97, 114, 103, 101]⟩]) (by simp [results, Try.results27, go_sem, r0, r1, r2]) rfl ⟨by rw [HQ.out], ?_⟩
      exact ((b4.setCell (by simp) _).setCell (by simp) _).setCell (by simp) _
  · have hq : V = (.tuple #[.agg #[.int .i64 k, .int .i64 n, .string t], .string ⟨#[]⟩]) := HV.out.trans (if_neg fun h => hk h.1)
    have HQ := Lib.hid hq
    clear hq
    have ek : (k == 3) = false := by simp [hk]
    clear hk
    go_wp2_with fail
    refine bodyPost_ret (v := .tuple #[.agg #[.int .i64 k, .int .i64 n, .string t], .string ⟨#[]⟩]) (by simp [results, Try.results27, go_sem, r0, r1, r2]) rfl ⟨by rw [HQ.out], ?_⟩
    exact ((b4.setCell (by simp) _).setCell (by simp) _).setCell (by simp) _
theorem pure1_cat : (⟨#[45]⟩ : ByteArray) ++ ⟨#[58, 32, 98, 97, 100, 32, 97, 114, 103, 117, 109, 101, 110, 116]⟩ = ⟨#[45, 58, 32, 98, 97, 100, 32, 97, 114, 103, 117, 109, 101, 110, 116]⟩ := by decide
set_option maxRecDepth 100000 in
set_option maxHeartbeats 4000000 in
theorem pure1_no (A Q : Value) (w : World) (HR : Hid (∀ (h : Nat) (u : World), Below w.heap.size w u → h < u.heap.size → u.cell? ⟨h, 0, none⟩ = some (.func (.func 51) #[] #[]) → Calls Try.prog 66 #[A, Q, .pointer (some ⟨h, 0, none⟩)] u fun e w' => e = .returned (.tuple #[.agg #[.int .i64 0, .int .i64 0, .string ⟨#[]⟩], .bool false]) ∧ Below u.heap.size u w')) :
    Calls Try.prog 27 #[.int .i64 1, A, Q] w fun e w' => e = .returned (.tuple #[.agg #[.int .i64 0, .int .i64 0, .string ⟨#[]⟩], .string ⟨#[45, 58, 32, 98, 97, 100, 32, 97, 114, 103, 117, 109, 101, 110, 116]⟩]) ∧ Below w.heap.size w w' := by
  obtain ⟨W1, hW1⟩ : ∃ W1, W1 = w.alloc (.cells #[.int .i64 0, .int .i64 0, .string ⟨#[]⟩] 27) := ⟨_, rfl⟩
  have B1 : Below w.heap.size w W1 := by rw [hW1]; exact (Below.refl _ _).alloc (Nat.le_refl _) _
  have z1 : w.heap.size < W1.heap.size := by rw [hW1]; simp
  have R0 : D.Blk W1 w.heap.size 27 #[.int .i64 0, .int .i64 0, .string ⟨#[]⟩] := by rw [hW1]; exact D.Blk.new _ _ _
  go_enter Try.func27, Try.ntmps27
  go_upto_region 1 with fail
  rw [← hW1]
  clear hW1
  go_wp2_with fail
  (with_reducible refine (primRules_any W1).mono ?_)
  rintro e w2 ⟨g, h0, h1, h2, h3, h4, h6, h7, h8, h9, h10, h12, rfl, HG, hg, u0, u1, u2, u3, u4, u6, u7, u8, u9, u10, u12, hb2⟩
  have c1 : w2.cell? ⟨g, 3, none⟩ = some (.func (.func 66) #[] #[.pointer (some ⟨h1, 0, none⟩)]) := HG.row.cell 3
  have cf := HG.c1
  clear HG
  have R2 := R0.below hb2 z1
  have z2 := hb2.size
  have b2 := B1.trans (hb2.mono (by omega))
  have HC : Hid (Calls Try.prog 66 #[A, Q, .pointer (some ⟨h1, 0, none⟩)] w2 fun e w' => e = .returned (.tuple #[.agg #[.int .i64 0, .int .i64 0, .string ⟨#[]⟩], .bool false]) ∧ Below w2.heap.size w2 w') := HR.out h1 w2 b2 u1 cf
  clear u0 u1 u2 u3 u4 u6 u7 u8 u9 u10 u12 cf HR
  go_wp2_with fail
  (with_reducible refine HC.out.mono ?_)
  rintro e w3 ⟨rfl, hb3⟩
  clear HC c1
  have R3 := R2.below hb3 (by omega)
  have z3 := hb3.size
  have b3 := b2.trans (hb3.mono (by omega))
  go_upto_region 2 with fail
  obtain ⟨W4, hW4⟩ : ∃ W4, W4 = w3.alloc (.cells #[.int .i64 0, .int .i64 0, .string ⟨#[]⟩] 27) := ⟨_, rfl⟩
  rw [← hW4]
  have h4 : Below w3.heap.size w3 W4 := by rw [hW4]; exact (Below.refl _ _).alloc (Nat.le_refl _) _
  have XV : D.Blk W4 w3.heap.size 27 #[.int .i64 0, .int .i64 0, .string ⟨#[]⟩] := by rw [hW4]; exact D.Blk.new _ _ _
  have z4 := h4.size
  clear hW4
  have b4 := b3.trans (h4.mono (by omega))
  have R4 := R3.below h4 (by omega)
  have v0 : W4.cell? ⟨w3.heap.size, 0, none⟩ = some (.int .i64 0) := XV.cell 0
  have v1 : W4.cell? ⟨w3.heap.size, 1, none⟩ = some (.int .i64 0) := XV.cell 1
  have v2 : W4.cell? ⟨w3.heap.size, 2, none⟩ = some (.string ⟨#[]⟩) := XV.cell 2
  have r0 : World.cell? W4 ⟨w.heap.size, 0, none⟩ = some (.int .i64 0) := R4.cell 0; have r1 : World.cell? W4 ⟨w.heap.size, 1, none⟩ = some (.int .i64 0) := R4.cell 1; have r2 : World.cell? W4 ⟨w.heap.size, 2, none⟩ = some (.string ⟨#[]⟩) := R4.cell 2; have g0 := R4.frozen 0; have g1 := R4.frozen 1; have g2 := R4.frozen 2
  clear XV R0 R2 R3 hb2 hb3
  go_wp2_with fail
  go_region_with (first | (go_at_call 41; (with_reducible refine (iprimN_x _).mono ?_); rintro e w5 ⟨rfl, hn5, hb5⟩; have n0 : World.cell? w5 ⟨W4.heap.size, 1, none⟩ = some (.string ⟨#[45]⟩) := hn5.cell 1; have hb6 : Below W4.heap.size W4 w5 := below_undrew hb5; have R5 := R4.below hb6 (by omega); have r0 : World.cell? w5 ⟨w.heap.size, 0, none⟩ = some (.int .i64 0) := R5.cell 0; have r1 : World.cell? w5 ⟨w.heap.size, 1, none⟩ = some (.int .i64 0) := R5.cell 1; have r2 : World.cell? w5 ⟨w.heap.size, 2, none⟩ = some (.string ⟨#[]⟩) := R5.cell 2; have g0 := R5.frozen 0; have g1 := R5.frozen 1; have g2 := R5.frozen 2))
  all_goals go_wp2_with fail
  all_goals refine bodyPost_ret (v := .tuple #[.agg #[.int .i64 0, .int .i64 0, .string ⟨#[]⟩], .string ⟨#[45, 58, 32, 98, 97, 100, 32, 97, 114, 103, 117, 109, 101, 110, 116]⟩]) (by simp [results, Try.results27, go_sem, r0, r1, r2]; (first | done | rfl | exact pure1_cat)) rfl ⟨rfl, ?_⟩
  all_goals (have b5 := b4.trans (hb6.mono (by omega)))
  all_goals exact ((b5.setCell (by simp) _).setCell (by simp) _).setCell (by simp) _
set_option maxRecDepth 100000 in
set_option maxHeartbeats 4000000 in
theorem pure1_yes (k n : Int) (t : ByteArray) (A Q : Value) (w : World) (HR : Hid (∀ (h : Nat) (u : World), Below w.heap.size w u → h < u.heap.size → u.cell? ⟨h, 0, none⟩ = some (.func (.func 51) #[] #[]) → Calls Try.prog 66 #[A, Q, .pointer (some ⟨h, 0, none⟩)] u fun e w' => e = .returned (.tuple #[.agg #[.int .i64 k, .int .i64 n, .string t], .bool true]) ∧ Below u.heap.size u w')) :
    Calls Try.prog 27 #[.int .i64 1, A, Q] w fun e w' => e = .returned ((if k = 3 ∧ ¬ (-999999999 ≤ n ∧ n ≤ 999999999) then .tuple #[.agg #[.int .i64 0, .int .i64 0, .string ⟨#[]⟩], .string ⟨#[110, 117, 109, 98, 101, 114, 32, 116, 111, 111, 32, 108, 97, 114, 103, 101]⟩] else .tuple #[.agg #[.int .i64 k, .int .i64 n, .string t], .string ⟨#[]⟩])) ∧ Below w.heap.size w w' := by
  obtain ⟨W1, hW1⟩ : ∃ W1, W1 = w.alloc (.cells #[.int .i64 0, .int .i64 0, .string ⟨#[]⟩] 27) := ⟨_, rfl⟩
  have B1 : Below w.heap.size w W1 := by rw [hW1]; exact (Below.refl _ _).alloc (Nat.le_refl _) _
  have z1 : w.heap.size < W1.heap.size := by rw [hW1]; simp
  have R0 : D.Blk W1 w.heap.size 27 #[.int .i64 0, .int .i64 0, .string ⟨#[]⟩] := by rw [hW1]; exact D.Blk.new _ _ _
  obtain ⟨V, hV⟩ : ∃ V : Value, V = (if k = 3 ∧ ¬ (-999999999 ≤ n ∧ n ≤ 999999999) then .tuple #[.agg #[.int .i64 0, .int .i64 0, .string ⟨#[]⟩], .string ⟨#[110, 117, 109, 98, 101, 114, 32, 116, 111, 111, 32, 108, 97, 114, 103, 101]⟩] else .tuple #[.agg #[.int .i64 k, .int .i64 n, .string t], .string ⟨#[]⟩]) := ⟨_, rfl⟩
  rw [← hV]
  have HV := Lib.hid hV
  clear hV
  go_enter Try.func27, Try.ntmps27
  go_upto_region 1 with fail
  rw [← hW1]
  clear hW1
  go_wp2_with fail
  (with_reducible refine (primRules_any W1).mono ?_)
  rintro e w2 ⟨g, h0, h1, h2, h3, h4, h6, h7, h8, h9, h10, h12, rfl, HG, hg, u0, u1, u2, u3, u4, u6, u7, u8, u9, u10, u12, hb2⟩
  have c1 : w2.cell? ⟨g, 3, none⟩ = some (.func (.func 66) #[] #[.pointer (some ⟨h1, 0, none⟩)]) := HG.row.cell 3
  have cf := HG.c1
  clear HG
  have R2 := R0.below hb2 z1
  have z2 := hb2.size
  have b2 := B1.trans (hb2.mono (by omega))
  have HC : Hid (Calls Try.prog 66 #[A, Q, .pointer (some ⟨h1, 0, none⟩)] w2 fun e w' => e = .returned (.tuple #[.agg #[.int .i64 k, .int .i64 n, .string t], .bool true]) ∧ Below w2.heap.size w2 w') := HR.out h1 w2 b2 u1 cf
  clear u0 u1 u2 u3 u4 u6 u7 u8 u9 u10 u12 cf HR
  go_wp2_with fail
  (with_reducible refine HC.out.mono ?_)
  rintro e w3 ⟨rfl, hb3⟩
  clear HC c1
  have R3 := R2.below hb3 (by omega)
  have z3 := hb3.size
  have b3 := b2.trans (hb3.mono (by omega))
  go_upto_region 2 with fail
  obtain ⟨W4, hW4⟩ : ∃ W4, W4 = w3.alloc (.cells #[.int .i64 k, .int .i64 n, .string t] 27) := ⟨_, rfl⟩
  rw [← hW4]
  have h4 : Below w3.heap.size w3 W4 := by rw [hW4]; exact (Below.refl _ _).alloc (Nat.le_refl _) _
  have XV : D.Blk W4 w3.heap.size 27 #[.int .i64 k, .int .i64 n, .string t] := by rw [hW4]; exact D.Blk.new _ _ _
  have z4 := h4.size
  clear hW4
  have b4 := b3.trans (h4.mono (by omega))
  have R4 := R3.below h4 (by omega)
  have v0 : W4.cell? ⟨w3.heap.size, 0, none⟩ = some (.int .i64 k) := XV.cell 0
  have v1 : W4.cell? ⟨w3.heap.size, 1, none⟩ = some (.int .i64 n) := XV.cell 1
  have v2 : W4.cell? ⟨w3.heap.size, 2, none⟩ = some (.string t) := XV.cell 2
  have r0 : World.cell? W4 ⟨w.heap.size, 0, none⟩ = some (.int .i64 0) := R4.cell 0; have r1 : World.cell? W4 ⟨w.heap.size, 1, none⟩ = some (.int .i64 0) := R4.cell 1; have r2 : World.cell? W4 ⟨w.heap.size, 2, none⟩ = some (.string ⟨#[]⟩) := R4.cell 2; have g0 := R4.frozen 0; have g1 := R4.frozen 1; have g2 := R4.frozen 2
  clear XV R0 R2 R3 hb2 hb3
  by_cases hk : k = 3
  · by_cases hn : -999999999 ≤ n ∧ n ≤ 999999999
    · have hq : V = (.tuple #[.agg #[.int .i64 k, .int .i64 n, .string t], .string ⟨#[]⟩]) := HV.out.trans (if_neg fun h => h.2 hn)
      have HQ := Lib.hid hq
      clear hq
      have qn := decide_eq_true hn
      have ek : (k == 3) = true := by simp [hk]
      clear hk hn
      go_wp2_with fail
      (with_reducible refine (isNumber_any n W4).mono ?_)
      rintro e w5 ⟨rfl, rfl⟩
      rw [qn]
      go_wp2_with fail
      refine bodyPost_ret (v := .tuple #[.agg #[.int .i64 k, .int .i64 n, .string t], .string ⟨#[]⟩]) (by simp [results, Try.results27, go_sem, r0, r1, r2]) rfl ⟨by rw [HQ.out], ?_⟩
      exact ((b4.setCell (by simp) _).setCell (by simp) _).setCell (by simp) _
    · have hq : V = (.tuple #[.agg #[.int .i64 0, .int .i64 0, .string ⟨#[]⟩], .string ⟨#[110, 117, 109, 98, 101, 114, 32, 116, 111, 111, 32, 108, 97, 114, 103, 101]⟩]) := HV.out.trans (if_pos ⟨hk, hn⟩)
      have HQ := Lib.hid hq
      clear hq
      have qn := decide_eq_false hn
      have ek : (k == 3) = true := by simp [hk]
      clear hk hn
      go_wp2_with fail
      (with_reducible refine (isNumber_any n W4).mono ?_)
      rintro e w5 ⟨rfl, rfl⟩
      rw [qn]
      go_wp2_with fail
      refine bodyPost_ret (v := .tuple #[.agg #[.int .i64 0, .int .i64 0, .string ⟨#[]⟩], .string ⟨#[110, 117, 109, 98, 101, 114, 32, 116, 111, 111, 32, 108, 97, 114, 103, 101]⟩]) (by simp [results, Try.results27, go_sem, r0, r1, r2]) rfl ⟨by rw [HQ.out], ?_⟩
      exact ((b4.setCell (by simp) _).setCell (by simp) _).setCell (by simp) _
  · have hq : V = (.tuple #[.agg #[.int .i64 k, .int .i64 n, .string t], .string ⟨#[]⟩]) := HV.out.trans (if_neg fun h => hk h.1)
    have HQ := Lib.hid hq
    clear hq
    have ek : (k == 3) = false := by simp [hk]
    clear hk
    go_wp2_with fail
    refine bodyPost_ret (v := .tuple #[.agg #[.int .i64 k, .int .i64 n, .string t], .string ⟨#[]⟩]) (by simp [results, Try.results27, go_sem, r0, r1, r2]) rfl ⟨by rw [HQ.out], ?_⟩
    exact ((b4.setCell (by simp) _).setCell (by simp) _).setCell (by simp) _
theorem pure2_cat : (⟨#[42]⟩ : ByteArray) ++ ⟨#[58, 32, 98, 97, 100, 32, 97, 114, 103, 117, 109, 101, 110, 116]⟩ = ⟨#[42, 58, 32, 98, 97, 100, 32, 97, 114, 103, 117, 109, 101, 110, 116]⟩ := by decide
set_option maxRecDepth 100000 in
set_option maxHeartbeats 4000000 in
theorem pure2_no (A Q : Value) (w : World) (HR : Hid (∀ (h : Nat) (u : World), Below w.heap.size w u → h < u.heap.size → u.cell? ⟨h, 0, none⟩ = some (.func (.func 52) #[] #[]) → Calls Try.prog 66 #[A, Q, .pointer (some ⟨h, 0, none⟩)] u fun e w' => e = .returned (.tuple #[.agg #[.int .i64 0, .int .i64 0, .string ⟨#[]⟩], .bool false]) ∧ Below u.heap.size u w')) :
    Calls Try.prog 27 #[.int .i64 2, A, Q] w fun e w' => e = .returned (.tuple #[.agg #[.int .i64 0, .int .i64 0, .string ⟨#[]⟩], .string ⟨#[42, 58, 32, 98, 97, 100, 32, 97, 114, 103, 117, 109, 101, 110, 116]⟩]) ∧ Below w.heap.size w w' := by
  obtain ⟨W1, hW1⟩ : ∃ W1, W1 = w.alloc (.cells #[.int .i64 0, .int .i64 0, .string ⟨#[]⟩] 27) := ⟨_, rfl⟩
  have B1 : Below w.heap.size w W1 := by rw [hW1]; exact (Below.refl _ _).alloc (Nat.le_refl _) _
  have z1 : w.heap.size < W1.heap.size := by rw [hW1]; simp
  have R0 : D.Blk W1 w.heap.size 27 #[.int .i64 0, .int .i64 0, .string ⟨#[]⟩] := by rw [hW1]; exact D.Blk.new _ _ _
  go_enter Try.func27, Try.ntmps27
  go_upto_region 1 with fail
  rw [← hW1]
  clear hW1
  go_wp2_with fail
  (with_reducible refine (primRules_any W1).mono ?_)
  rintro e w2 ⟨g, h0, h1, h2, h3, h4, h6, h7, h8, h9, h10, h12, rfl, HG, hg, u0, u1, u2, u3, u4, u6, u7, u8, u9, u10, u12, hb2⟩
  have c1 : w2.cell? ⟨g, 5, none⟩ = some (.func (.func 66) #[] #[.pointer (some ⟨h2, 0, none⟩)]) := HG.row.cell 5
  have cf := HG.c2
  clear HG
  have R2 := R0.below hb2 z1
  have z2 := hb2.size
  have b2 := B1.trans (hb2.mono (by omega))
  have HC : Hid (Calls Try.prog 66 #[A, Q, .pointer (some ⟨h2, 0, none⟩)] w2 fun e w' => e = .returned (.tuple #[.agg #[.int .i64 0, .int .i64 0, .string ⟨#[]⟩], .bool false]) ∧ Below w2.heap.size w2 w') := HR.out h2 w2 b2 u2 cf
  clear u0 u1 u2 u3 u4 u6 u7 u8 u9 u10 u12 cf HR
  go_wp2_with fail
  (with_reducible refine HC.out.mono ?_)
  rintro e w3 ⟨rfl, hb3⟩
  clear HC c1
  have R3 := R2.below hb3 (by omega)
  have z3 := hb3.size
  have b3 := b2.trans (hb3.mono (by omega))
  go_upto_region 2 with fail
  obtain ⟨W4, hW4⟩ : ∃ W4, W4 = w3.alloc (.cells #[.int .i64 0, .int .i64 0, .string ⟨#[]⟩] 27) := ⟨_, rfl⟩
  rw [← hW4]
  have h4 : Below w3.heap.size w3 W4 := by rw [hW4]; exact (Below.refl _ _).alloc (Nat.le_refl _) _
  have XV : D.Blk W4 w3.heap.size 27 #[.int .i64 0, .int .i64 0, .string ⟨#[]⟩] := by rw [hW4]; exact D.Blk.new _ _ _
  have z4 := h4.size
  clear hW4
  have b4 := b3.trans (h4.mono (by omega))
  have R4 := R3.below h4 (by omega)
  have v0 : W4.cell? ⟨w3.heap.size, 0, none⟩ = some (.int .i64 0) := XV.cell 0
  have v1 : W4.cell? ⟨w3.heap.size, 1, none⟩ = some (.int .i64 0) := XV.cell 1
  have v2 : W4.cell? ⟨w3.heap.size, 2, none⟩ = some (.string ⟨#[]⟩) := XV.cell 2
  have r0 : World.cell? W4 ⟨w.heap.size, 0, none⟩ = some (.int .i64 0) := R4.cell 0; have r1 : World.cell? W4 ⟨w.heap.size, 1, none⟩ = some (.int .i64 0) := R4.cell 1; have r2 : World.cell? W4 ⟨w.heap.size, 2, none⟩ = some (.string ⟨#[]⟩) := R4.cell 2; have g0 := R4.frozen 0; have g1 := R4.frozen 1; have g2 := R4.frozen 2
  clear XV R0 R2 R3 hb2 hb3
  go_wp2_with fail
  go_region_with (first | (go_at_call 41; (with_reducible refine (iprimN_x _).mono ?_); rintro e w5 ⟨rfl, hn5, hb5⟩; have n0 : World.cell? w5 ⟨W4.heap.size, 2, none⟩ = some (.string ⟨#[42]⟩) := hn5.cell 2; have hb6 : Below W4.heap.size W4 w5 := below_undrew hb5; have R5 := R4.below hb6 (by omega); have r0 : World.cell? w5 ⟨w.heap.size, 0, none⟩ = some (.int .i64 0) := R5.cell 0; have r1 : World.cell? w5 ⟨w.heap.size, 1, none⟩ = some (.int .i64 0) := R5.cell 1; have r2 : World.cell? w5 ⟨w.heap.size, 2, none⟩ = some (.string ⟨#[]⟩) := R5.cell 2; have g0 := R5.frozen 0; have g1 := R5.frozen 1; have g2 := R5.frozen 2))
  all_goals go_wp2_with fail
  all_goals refine bodyPost_ret (v := .tuple #[.agg #[.int .i64 0, .int .i64 0, .string ⟨#[]⟩], .string ⟨#[42, 58, 32, 98, 97, 100, 32, 97, 114, 103, 117, 109, 101, 110, 116]⟩]) (by simp [results, Try.results27, go_sem, r0, r1, r2]; (first | done | rfl | exact pure2_cat)) rfl ⟨rfl, ?_⟩
  all_goals (have b5 := b4.trans (hb6.mono (by omega)))
  all_goals exact ((b5.setCell (by simp) _).setCell (by simp) _).setCell (by simp) _
set_option maxRecDepth 100000 in
set_option maxHeartbeats 4000000 in
theorem pure2_yes (k n : Int) (t : ByteArray) (A Q : Value) (w : World) (HR : Hid (∀ (h : Nat) (u : World), Below w.heap.size w u → h < u.heap.size → u.cell? ⟨h, 0, none⟩ = some (.func (.func 52) #[] #[]) → Calls Try.prog 66 #[A, Q, .pointer (some ⟨h, 0, none⟩)] u fun e w' => e = .returned (.tuple #[.agg #[.int .i64 k, .int .i64 n, .string t], .bool true]) ∧ Below u.heap.size u w')) :
    Calls Try.prog 27 #[.int .i64 2, A, Q] w fun e w' => e = .returned ((if k = 3 ∧ ¬ (-999999999 ≤ n ∧ n ≤ 999999999) then .tuple #[.agg #[.int .i64 0, .int .i64 0, .string ⟨#[]⟩], .string ⟨#[110, 117, 109, 98, 101, 114, 32, 116, 111, 111, 32, 108, 97, 114, 103, 101]⟩] else .tuple #[.agg #[.int .i64 k, .int .i64 n, .string t], .string ⟨#[]⟩])) ∧ Below w.heap.size w w' := by
  obtain ⟨W1, hW1⟩ : ∃ W1, W1 = w.alloc (.cells #[.int .i64 0, .int .i64 0, .string ⟨#[]⟩] 27) := ⟨_, rfl⟩
  have B1 : Below w.heap.size w W1 := by rw [hW1]; exact (Below.refl _ _).alloc (Nat.le_refl _) _
  have z1 : w.heap.size < W1.heap.size := by rw [hW1]; simp
  have R0 : D.Blk W1 w.heap.size 27 #[.int .i64 0, .int .i64 0, .string ⟨#[]⟩] := by rw [hW1]; exact D.Blk.new _ _ _
  obtain ⟨V, hV⟩ : ∃ V : Value, V = (if k = 3 ∧ ¬ (-999999999 ≤ n ∧ n ≤ 999999999) then .tuple #[.agg #[.int .i64 0, .int .i64 0, .string ⟨#[]⟩], .string ⟨#[110, 117, 109, 98, 101, 114, 32, 116, 111, 111, 32, 108, 97, 114, 103, 101]⟩] else .tuple #[.agg #[.int .i64 k, .int .i64 n, .string t], .string ⟨#[]⟩]) := ⟨_, rfl⟩
  rw [← hV]
  have HV := Lib.hid hV
  clear hV
  go_enter Try.func27, Try.ntmps27
  go_upto_region 1 with fail
  rw [← hW1]
  clear hW1
  go_wp2_with fail
  (with_reducible refine (primRules_any W1).mono ?_)
  rintro e w2 ⟨g, h0, h1, h2, h3, h4, h6, h7, h8, h9, h10, h12, rfl, HG, hg, u0, u1, u2, u3, u4, u6, u7, u8, u9, u10, u12, hb2⟩
  have c1 : w2.cell? ⟨g, 5, none⟩ = some (.func (.func 66) #[] #[.pointer (some ⟨h2, 0, none⟩)]) := HG.row.cell 5
  have cf := HG.c2
  clear HG
  have R2 := R0.below hb2 z1
  have z2 := hb2.size
  have b2 := B1.trans (hb2.mono (by omega))
  have HC : Hid (Calls Try.prog 66 #[A, Q, .pointer (some ⟨h2, 0, none⟩)] w2 fun e w' => e = .returned (.tuple #[.agg #[.int .i64 k, .int .i64 n, .string t], .bool true]) ∧ Below w2.heap.size w2 w') := HR.out h2 w2 b2 u2 cf
  clear u0 u1 u2 u3 u4 u6 u7 u8 u9 u10 u12 cf HR
  go_wp2_with fail
  (with_reducible refine HC.out.mono ?_)
  rintro e w3 ⟨rfl, hb3⟩
  clear HC c1
  have R3 := R2.below hb3 (by omega)
  have z3 := hb3.size
  have b3 := b2.trans (hb3.mono (by omega))
  go_upto_region 2 with fail
  obtain ⟨W4, hW4⟩ : ∃ W4, W4 = w3.alloc (.cells #[.int .i64 k, .int .i64 n, .string t] 27) := ⟨_, rfl⟩
  rw [← hW4]
  have h4 : Below w3.heap.size w3 W4 := by rw [hW4]; exact (Below.refl _ _).alloc (Nat.le_refl _) _
  have XV : D.Blk W4 w3.heap.size 27 #[.int .i64 k, .int .i64 n, .string t] := by rw [hW4]; exact D.Blk.new _ _ _
  have z4 := h4.size
  clear hW4
  have b4 := b3.trans (h4.mono (by omega))
  have R4 := R3.below h4 (by omega)
  have v0 : W4.cell? ⟨w3.heap.size, 0, none⟩ = some (.int .i64 k) := XV.cell 0
  have v1 : W4.cell? ⟨w3.heap.size, 1, none⟩ = some (.int .i64 n) := XV.cell 1
  have v2 : W4.cell? ⟨w3.heap.size, 2, none⟩ = some (.string t) := XV.cell 2
  have r0 : World.cell? W4 ⟨w.heap.size, 0, none⟩ = some (.int .i64 0) := R4.cell 0; have r1 : World.cell? W4 ⟨w.heap.size, 1, none⟩ = some (.int .i64 0) := R4.cell 1; have r2 : World.cell? W4 ⟨w.heap.size, 2, none⟩ = some (.string ⟨#[]⟩) := R4.cell 2; have g0 := R4.frozen 0; have g1 := R4.frozen 1; have g2 := R4.frozen 2
  clear XV R0 R2 R3 hb2 hb3
  by_cases hk : k = 3
  · by_cases hn : -999999999 ≤ n ∧ n ≤ 999999999
    · have hq : V = (.tuple #[.agg #[.int .i64 k, .int .i64 n, .string t], .string ⟨#[]⟩]) := HV.out.trans (if_neg fun h => h.2 hn)
      have HQ := Lib.hid hq
      clear hq
      have qn := decide_eq_true hn
      have ek : (k == 3) = true := by simp [hk]
      clear hk hn
      go_wp2_with fail
      (with_reducible refine (isNumber_any n W4).mono ?_)
      rintro e w5 ⟨rfl, rfl⟩
      rw [qn]
      go_wp2_with fail
      refine bodyPost_ret (v := .tuple #[.agg #[.int .i64 k, .int .i64 n, .string t], .string ⟨#[]⟩]) (by simp [results, Try.results27, go_sem, r0, r1, r2]) rfl ⟨by rw [HQ.out], ?_⟩
      exact ((b4.setCell (by simp) _).setCell (by simp) _).setCell (by simp) _
    · have hq : V = (.tuple #[.agg #[.int .i64 0, .int .i64 0, .string ⟨#[]⟩], .string ⟨#[110, 117, 109, 98, 101, 114, 32, 116, 111, 111, 32, 108, 97, 114, 103, 101]⟩]) := HV.out.trans (if_pos ⟨hk, hn⟩)
      have HQ := Lib.hid hq
      clear hq
      have qn := decide_eq_false hn
      have ek : (k == 3) = true := by simp [hk]
      clear hk hn
      go_wp2_with fail
      (with_reducible refine (isNumber_any n W4).mono ?_)
      rintro e w5 ⟨rfl, rfl⟩
      rw [qn]
      go_wp2_with fail
      refine bodyPost_ret (v := .tuple #[.agg #[.int .i64 0, .int .i64 0, .string ⟨#[]⟩], .string ⟨#[110, 117, 109, 98, 101, 114, 32, 116, 111, 111, 32, 108, 97, 114, 103, 101]⟩]) (by simp [results, Try.results27, go_sem, r0, r1, r2]) rfl ⟨by rw [HQ.out], ?_⟩
      exact ((b4.setCell (by simp) _).setCell (by simp) _).setCell (by simp) _
  · have hq : V = (.tuple #[.agg #[.int .i64 k, .int .i64 n, .string t], .string ⟨#[]⟩]) := HV.out.trans (if_neg fun h => hk h.1)
    have HQ := Lib.hid hq
    clear hq
    have ek : (k == 3) = false := by simp [hk]
    clear hk
    go_wp2_with fail
    refine bodyPost_ret (v := .tuple #[.agg #[.int .i64 k, .int .i64 n, .string t], .string ⟨#[]⟩]) (by simp [results, Try.results27, go_sem, r0, r1, r2]) rfl ⟨by rw [HQ.out], ?_⟩
    exact ((b4.setCell (by simp) _).setCell (by simp) _).setCell (by simp) _
theorem pure3_cat : (⟨#[61]⟩ : ByteArray) ++ ⟨#[58, 32, 98, 97, 100, 32, 97, 114, 103, 117, 109, 101, 110, 116]⟩ = ⟨#[61, 58, 32, 98, 97, 100, 32, 97, 114, 103, 117, 109, 101, 110, 116]⟩ := by decide
set_option maxRecDepth 100000 in
set_option maxHeartbeats 4000000 in
theorem pure3_no (A Q : Value) (w : World) (HR : Hid (∀ (h : Nat) (u : World), Below w.heap.size w u → h < u.heap.size → u.cell? ⟨h, 0, none⟩ = some (.func (.func 53) #[] #[]) → Calls Try.prog 66 #[A, Q, .pointer (some ⟨h, 0, none⟩)] u fun e w' => e = .returned (.tuple #[.agg #[.int .i64 0, .int .i64 0, .string ⟨#[]⟩], .bool false]) ∧ Below u.heap.size u w')) :
    Calls Try.prog 27 #[.int .i64 3, A, Q] w fun e w' => e = .returned (.tuple #[.agg #[.int .i64 0, .int .i64 0, .string ⟨#[]⟩], .string ⟨#[61, 58, 32, 98, 97, 100, 32, 97, 114, 103, 117, 109, 101, 110, 116]⟩]) ∧ Below w.heap.size w w' := by
  obtain ⟨W1, hW1⟩ : ∃ W1, W1 = w.alloc (.cells #[.int .i64 0, .int .i64 0, .string ⟨#[]⟩] 27) := ⟨_, rfl⟩
  have B1 : Below w.heap.size w W1 := by rw [hW1]; exact (Below.refl _ _).alloc (Nat.le_refl _) _
  have z1 : w.heap.size < W1.heap.size := by rw [hW1]; simp
  have R0 : D.Blk W1 w.heap.size 27 #[.int .i64 0, .int .i64 0, .string ⟨#[]⟩] := by rw [hW1]; exact D.Blk.new _ _ _
  go_enter Try.func27, Try.ntmps27
  go_upto_region 1 with fail
  rw [← hW1]
  clear hW1
  go_wp2_with fail
  (with_reducible refine (primRules_any W1).mono ?_)
  rintro e w2 ⟨g, h0, h1, h2, h3, h4, h6, h7, h8, h9, h10, h12, rfl, HG, hg, u0, u1, u2, u3, u4, u6, u7, u8, u9, u10, u12, hb2⟩
  have c1 : w2.cell? ⟨g, 7, none⟩ = some (.func (.func 66) #[] #[.pointer (some ⟨h3, 0, none⟩)]) := HG.row.cell 7
  have cf := HG.c3
  clear HG
  have R2 := R0.below hb2 z1
  have z2 := hb2.size
  have b2 := B1.trans (hb2.mono (by omega))
  have HC : Hid (Calls Try.prog 66 #[A, Q, .pointer (some ⟨h3, 0, none⟩)] w2 fun e w' => e = .returned (.tuple #[.agg #[.int .i64 0, .int .i64 0, .string ⟨#[]⟩], .bool false]) ∧ Below w2.heap.size w2 w') := HR.out h3 w2 b2 u3 cf
  clear u0 u1 u2 u3 u4 u6 u7 u8 u9 u10 u12 cf HR
  go_wp2_with fail
  (with_reducible refine HC.out.mono ?_)
  rintro e w3 ⟨rfl, hb3⟩
  clear HC c1
  have R3 := R2.below hb3 (by omega)
  have z3 := hb3.size
  have b3 := b2.trans (hb3.mono (by omega))
  go_upto_region 2 with fail
  obtain ⟨W4, hW4⟩ : ∃ W4, W4 = w3.alloc (.cells #[.int .i64 0, .int .i64 0, .string ⟨#[]⟩] 27) := ⟨_, rfl⟩
  rw [← hW4]
  have h4 : Below w3.heap.size w3 W4 := by rw [hW4]; exact (Below.refl _ _).alloc (Nat.le_refl _) _
  have XV : D.Blk W4 w3.heap.size 27 #[.int .i64 0, .int .i64 0, .string ⟨#[]⟩] := by rw [hW4]; exact D.Blk.new _ _ _
  have z4 := h4.size
  clear hW4
  have b4 := b3.trans (h4.mono (by omega))
  have R4 := R3.below h4 (by omega)
  have v0 : W4.cell? ⟨w3.heap.size, 0, none⟩ = some (.int .i64 0) := XV.cell 0
  have v1 : W4.cell? ⟨w3.heap.size, 1, none⟩ = some (.int .i64 0) := XV.cell 1
  have v2 : W4.cell? ⟨w3.heap.size, 2, none⟩ = some (.string ⟨#[]⟩) := XV.cell 2
  have r0 : World.cell? W4 ⟨w.heap.size, 0, none⟩ = some (.int .i64 0) := R4.cell 0; have r1 : World.cell? W4 ⟨w.heap.size, 1, none⟩ = some (.int .i64 0) := R4.cell 1; have r2 : World.cell? W4 ⟨w.heap.size, 2, none⟩ = some (.string ⟨#[]⟩) := R4.cell 2; have g0 := R4.frozen 0; have g1 := R4.frozen 1; have g2 := R4.frozen 2
  clear XV R0 R2 R3 hb2 hb3
  go_wp2_with fail
  go_region_with (first | (go_at_call 41; (with_reducible refine (iprimN_x _).mono ?_); rintro e w5 ⟨rfl, hn5, hb5⟩; have n0 : World.cell? w5 ⟨W4.heap.size, 3, none⟩ = some (.string ⟨#[61]⟩) := hn5.cell 3; have hb6 : Below W4.heap.size W4 w5 := below_undrew hb5; have R5 := R4.below hb6 (by omega); have r0 : World.cell? w5 ⟨w.heap.size, 0, none⟩ = some (.int .i64 0) := R5.cell 0; have r1 : World.cell? w5 ⟨w.heap.size, 1, none⟩ = some (.int .i64 0) := R5.cell 1; have r2 : World.cell? w5 ⟨w.heap.size, 2, none⟩ = some (.string ⟨#[]⟩) := R5.cell 2; have g0 := R5.frozen 0; have g1 := R5.frozen 1; have g2 := R5.frozen 2))
  all_goals go_wp2_with fail
  all_goals refine bodyPost_ret (v := .tuple #[.agg #[.int .i64 0, .int .i64 0, .string ⟨#[]⟩], .string ⟨#[61, 58, 32, 98, 97, 100, 32, 97, 114, 103, 117, 109, 101, 110, 116]⟩]) (by simp [results, Try.results27, go_sem, r0, r1, r2]; (first | done | rfl | exact pure3_cat)) rfl ⟨rfl, ?_⟩
  all_goals (have b5 := b4.trans (hb6.mono (by omega)))
  all_goals exact ((b5.setCell (by simp) _).setCell (by simp) _).setCell (by simp) _
set_option maxRecDepth 100000 in
set_option maxHeartbeats 4000000 in
theorem pure3_yes (k n : Int) (t : ByteArray) (A Q : Value) (w : World) (HR : Hid (∀ (h : Nat) (u : World), Below w.heap.size w u → h < u.heap.size → u.cell? ⟨h, 0, none⟩ = some (.func (.func 53) #[] #[]) → Calls Try.prog 66 #[A, Q, .pointer (some ⟨h, 0, none⟩)] u fun e w' => e = .returned (.tuple #[.agg #[.int .i64 k, .int .i64 n, .string t], .bool true]) ∧ Below u.heap.size u w')) :
    Calls Try.prog 27 #[.int .i64 3, A, Q] w fun e w' => e = .returned ((if k = 3 ∧ ¬ (-999999999 ≤ n ∧ n ≤ 999999999) then .tuple #[.agg #[.int .i64 0, .int .i64 0, .string ⟨#[]⟩], .string ⟨#[110, 117, 109, 98, 101, 114, 32, 116, 111, 111, 32, 108, 97, 114, 103, 101]⟩] else .tuple #[.agg #[.int .i64 k, .int .i64 n, .string t], .string ⟨#[]⟩])) ∧ Below w.heap.size w w' := by
  obtain ⟨W1, hW1⟩ : ∃ W1, W1 = w.alloc (.cells #[.int .i64 0, .int .i64 0, .string ⟨#[]⟩] 27) := ⟨_, rfl⟩
  have B1 : Below w.heap.size w W1 := by rw [hW1]; exact (Below.refl _ _).alloc (Nat.le_refl _) _
  have z1 : w.heap.size < W1.heap.size := by rw [hW1]; simp
  have R0 : D.Blk W1 w.heap.size 27 #[.int .i64 0, .int .i64 0, .string ⟨#[]⟩] := by rw [hW1]; exact D.Blk.new _ _ _
  obtain ⟨V, hV⟩ : ∃ V : Value, V = (if k = 3 ∧ ¬ (-999999999 ≤ n ∧ n ≤ 999999999) then .tuple #[.agg #[.int .i64 0, .int .i64 0, .string ⟨#[]⟩], .string ⟨#[110, 117, 109, 98, 101, 114, 32, 116, 111, 111, 32, 108, 97, 114, 103, 101]⟩] else .tuple #[.agg #[.int .i64 k, .int .i64 n, .string t], .string ⟨#[]⟩]) := ⟨_, rfl⟩
  rw [← hV]
  have HV := Lib.hid hV
  clear hV
  go_enter Try.func27, Try.ntmps27
  go_upto_region 1 with fail
  rw [← hW1]
  clear hW1
  go_wp2_with fail
  (with_reducible refine (primRules_any W1).mono ?_)
  rintro e w2 ⟨g, h0, h1, h2, h3, h4, h6, h7, h8, h9, h10, h12, rfl, HG, hg, u0, u1, u2, u3, u4, u6, u7, u8, u9, u10, u12, hb2⟩
  have c1 : w2.cell? ⟨g, 7, none⟩ = some (.func (.func 66) #[] #[.pointer (some ⟨h3, 0, none⟩)]) := HG.row.cell 7
  have cf := HG.c3
  clear HG
  have R2 := R0.below hb2 z1
  have z2 := hb2.size
  have b2 := B1.trans (hb2.mono (by omega))
  have HC : Hid (Calls Try.prog 66 #[A, Q, .pointer (some ⟨h3, 0, none⟩)] w2 fun e w' => e = .returned (.tuple #[.agg #[.int .i64 k, .int .i64 n, .string t], .bool true]) ∧ Below w2.heap.size w2 w') := HR.out h3 w2 b2 u3 cf
  clear u0 u1 u2 u3 u4 u6 u7 u8 u9 u10 u12 cf HR
  go_wp2_with fail
  (with_reducible refine HC.out.mono ?_)
  rintro e w3 ⟨rfl, hb3⟩
  clear HC c1
  have R3 := R2.below hb3 (by omega)
  have z3 := hb3.size
  have b3 := b2.trans (hb3.mono (by omega))
  go_upto_region 2 with fail
  obtain ⟨W4, hW4⟩ : ∃ W4, W4 = w3.alloc (.cells #[.int .i64 k, .int .i64 n, .string t] 27) := ⟨_, rfl⟩
  rw [← hW4]
  have h4 : Below w3.heap.size w3 W4 := by rw [hW4]; exact (Below.refl _ _).alloc (Nat.le_refl _) _
  have XV : D.Blk W4 w3.heap.size 27 #[.int .i64 k, .int .i64 n, .string t] := by rw [hW4]; exact D.Blk.new _ _ _
  have z4 := h4.size
  clear hW4
  have b4 := b3.trans (h4.mono (by omega))
  have R4 := R3.below h4 (by omega)
  have v0 : W4.cell? ⟨w3.heap.size, 0, none⟩ = some (.int .i64 k) := XV.cell 0
  have v1 : W4.cell? ⟨w3.heap.size, 1, none⟩ = some (.int .i64 n) := XV.cell 1
  have v2 : W4.cell? ⟨w3.heap.size, 2, none⟩ = some (.string t) := XV.cell 2
  have r0 : World.cell? W4 ⟨w.heap.size, 0, none⟩ = some (.int .i64 0) := R4.cell 0; have r1 : World.cell? W4 ⟨w.heap.size, 1, none⟩ = some (.int .i64 0) := R4.cell 1; have r2 : World.cell? W4 ⟨w.heap.size, 2, none⟩ = some (.string ⟨#[]⟩) := R4.cell 2; have g0 := R4.frozen 0; have g1 := R4.frozen 1; have g2 := R4.frozen 2
  clear XV R0 R2 R3 hb2 hb3
  by_cases hk : k = 3
  · by_cases hn : -999999999 ≤ n ∧ n ≤ 999999999
    · have hq : V = (.tuple #[.agg #[.int .i64 k, .int .i64 n, .string t], .string ⟨#[]⟩]) := HV.out.trans (if_neg fun h => h.2 hn)
      have HQ := Lib.hid hq
      clear hq
      have qn := decide_eq_true hn
      have ek : (k == 3) = true := by simp [hk]
      clear hk hn
      go_wp2_with fail
      (with_reducible refine (isNumber_any n W4).mono ?_)
      rintro e w5 ⟨rfl, rfl⟩
      rw [qn]
      go_wp2_with fail
      refine bodyPost_ret (v := .tuple #[.agg #[.int .i64 k, .int .i64 n, .string t], .string ⟨#[]⟩]) (by simp [results, Try.results27, go_sem, r0, r1, r2]) rfl ⟨by rw [HQ.out], ?_⟩
      exact ((b4.setCell (by simp) _).setCell (by simp) _).setCell (by simp) _
    · have hq : V = (.tuple #[.agg #[.int .i64 0, .int .i64 0, .string ⟨#[]⟩], .string ⟨#[110, 117, 109, 98, 101, 114, 32, 116, 111, 111, 32, 108, 97, 114, 103, 101]⟩]) := HV.out.trans (if_pos ⟨hk, hn⟩)
      have HQ := Lib.hid hq
      clear hq
      have qn := decide_eq_false hn
      have ek : (k == 3) = true := by simp [hk]
      clear hk hn
      go_wp2_with fail
      (with_reducible refine (isNumber_any n W4).mono ?_)
      rintro e w5 ⟨rfl, rfl⟩
      rw [qn]
      go_wp2_with fail
      refine bodyPost_ret (v := .tuple #[.agg #[.int .i64 0, .int .i64 0, .string ⟨#[]⟩], .string ⟨#[110, 117, 109, 98, 101, 114, 32, 116, 111, 111, 32, 108, 97, 114, 103, 101]⟩]) (by simp [results, Try.results27, go_sem, r0, r1, r2]) rfl ⟨by rw [HQ.out], ?_⟩
      exact ((b4.setCell (by simp) _).setCell (by simp) _).setCell (by simp) _
  · have hq : V = (.tuple #[.agg #[.int .i64 k, .int .i64 n, .string t], .string ⟨#[]⟩]) := HV.out.trans (if_neg fun h => hk h.1)
    have HQ := Lib.hid hq
    clear hq
    have ek : (k == 3) = false := by simp [hk]
    clear hk
    go_wp2_with fail
    refine bodyPost_ret (v := .tuple #[.agg #[.int .i64 k, .int .i64 n, .string t], .string ⟨#[]⟩]) (by simp [results, Try.results27, go_sem, r0, r1, r2]) rfl ⟨by rw [HQ.out], ?_⟩
    exact ((b4.setCell (by simp) _).setCell (by simp) _).setCell (by simp) _
theorem pure4_cat : (⟨#[60]⟩ : ByteArray) ++ ⟨#[58, 32, 98, 97, 100, 32, 97, 114, 103, 117, 109, 101, 110, 116]⟩ = ⟨#[60, 58, 32, 98, 97, 100, 32, 97, 114, 103, 117, 109, 101, 110, 116]⟩ := by decide
set_option maxRecDepth 100000 in
set_option maxHeartbeats 4000000 in
theorem pure4_no (A Q : Value) (w : World) (HR : Hid (∀ (h : Nat) (u : World), Below w.heap.size w u → h < u.heap.size → u.cell? ⟨h, 0, none⟩ = some (.func (.func 55) #[] #[]) → Calls Try.prog 66 #[A, Q, .pointer (some ⟨h, 0, none⟩)] u fun e w' => e = .returned (.tuple #[.agg #[.int .i64 0, .int .i64 0, .string ⟨#[]⟩], .bool false]) ∧ Below u.heap.size u w')) :
    Calls Try.prog 27 #[.int .i64 4, A, Q] w fun e w' => e = .returned (.tuple #[.agg #[.int .i64 0, .int .i64 0, .string ⟨#[]⟩], .string ⟨#[60, 58, 32, 98, 97, 100, 32, 97, 114, 103, 117, 109, 101, 110, 116]⟩]) ∧ Below w.heap.size w w' := by
  obtain ⟨W1, hW1⟩ : ∃ W1, W1 = w.alloc (.cells #[.int .i64 0, .int .i64 0, .string ⟨#[]⟩] 27) := ⟨_, rfl⟩
  have B1 : Below w.heap.size w W1 := by rw [hW1]; exact (Below.refl _ _).alloc (Nat.le_refl _) _
  have z1 : w.heap.size < W1.heap.size := by rw [hW1]; simp
  have R0 : D.Blk W1 w.heap.size 27 #[.int .i64 0, .int .i64 0, .string ⟨#[]⟩] := by rw [hW1]; exact D.Blk.new _ _ _
  go_enter Try.func27, Try.ntmps27
  go_upto_region 1 with fail
  rw [← hW1]
  clear hW1
  go_wp2_with fail
  (with_reducible refine (primRules_any W1).mono ?_)
  rintro e w2 ⟨g, h0, h1, h2, h3, h4, h6, h7, h8, h9, h10, h12, rfl, HG, hg, u0, u1, u2, u3, u4, u6, u7, u8, u9, u10, u12, hb2⟩
  have c1 : w2.cell? ⟨g, 9, none⟩ = some (.func (.func 66) #[] #[.pointer (some ⟨h4, 0, none⟩)]) := HG.row.cell 9
  have cf := HG.c4
  clear HG
  have R2 := R0.below hb2 z1
  have z2 := hb2.size
  have b2 := B1.trans (hb2.mono (by omega))
  have HC : Hid (Calls Try.prog 66 #[A, Q, .pointer (some ⟨h4, 0, none⟩)] w2 fun e w' => e = .returned (.tuple #[.agg #[.int .i64 0, .int .i64 0, .string ⟨#[]⟩], .bool false]) ∧ Below w2.heap.size w2 w') := HR.out h4 w2 b2 u4 cf
  clear u0 u1 u2 u3 u4 u6 u7 u8 u9 u10 u12 cf HR
  go_wp2_with fail
  (with_reducible refine HC.out.mono ?_)
  rintro e w3 ⟨rfl, hb3⟩
  clear HC c1
  have R3 := R2.below hb3 (by omega)
  have z3 := hb3.size
  have b3 := b2.trans (hb3.mono (by omega))
  go_upto_region 2 with fail
  obtain ⟨W4, hW4⟩ : ∃ W4, W4 = w3.alloc (.cells #[.int .i64 0, .int .i64 0, .string ⟨#[]⟩] 27) := ⟨_, rfl⟩
  rw [← hW4]
  have h4 : Below w3.heap.size w3 W4 := by rw [hW4]; exact (Below.refl _ _).alloc (Nat.le_refl _) _
  have XV : D.Blk W4 w3.heap.size 27 #[.int .i64 0, .int .i64 0, .string ⟨#[]⟩] := by rw [hW4]; exact D.Blk.new _ _ _
  have z4 := h4.size
  clear hW4
  have b4 := b3.trans (h4.mono (by omega))
  have R4 := R3.below h4 (by omega)
  have v0 : W4.cell? ⟨w3.heap.size, 0, none⟩ = some (.int .i64 0) := XV.cell 0
  have v1 : W4.cell? ⟨w3.heap.size, 1, none⟩ = some (.int .i64 0) := XV.cell 1
  have v2 : W4.cell? ⟨w3.heap.size, 2, none⟩ = some (.string ⟨#[]⟩) := XV.cell 2
  have r0 : World.cell? W4 ⟨w.heap.size, 0, none⟩ = some (.int .i64 0) := R4.cell 0; have r1 : World.cell? W4 ⟨w.heap.size, 1, none⟩ = some (.int .i64 0) := R4.cell 1; have r2 : World.cell? W4 ⟨w.heap.size, 2, none⟩ = some (.string ⟨#[]⟩) := R4.cell 2; have g0 := R4.frozen 0; have g1 := R4.frozen 1; have g2 := R4.frozen 2
  clear XV R0 R2 R3 hb2 hb3
  go_wp2_with fail
  go_region_with (first | (go_at_call 41; (with_reducible refine (iprimN_x _).mono ?_); rintro e w5 ⟨rfl, hn5, hb5⟩; have n0 : World.cell? w5 ⟨W4.heap.size, 4, none⟩ = some (.string ⟨#[60]⟩) := hn5.cell 4; have hb6 : Below W4.heap.size W4 w5 := below_undrew hb5; have R5 := R4.below hb6 (by omega); have r0 : World.cell? w5 ⟨w.heap.size, 0, none⟩ = some (.int .i64 0) := R5.cell 0; have r1 : World.cell? w5 ⟨w.heap.size, 1, none⟩ = some (.int .i64 0) := R5.cell 1; have r2 : World.cell? w5 ⟨w.heap.size, 2, none⟩ = some (.string ⟨#[]⟩) := R5.cell 2; have g0 := R5.frozen 0; have g1 := R5.frozen 1; have g2 := R5.frozen 2))
  all_goals go_wp2_with fail
  all_goals refine bodyPost_ret (v := .tuple #[.agg #[.int .i64 0, .int .i64 0, .string ⟨#[]⟩], .string ⟨#[60, 58, 32, 98, 97, 100, 32, 97, 114, 103, 117, 109, 101, 110, 116]⟩]) (by simp [results, Try.results27, go_sem, r0, r1, r2]; (first | done | rfl | exact pure4_cat)) rfl ⟨rfl, ?_⟩
  all_goals (have b5 := b4.trans (hb6.mono (by omega)))
  all_goals exact ((b5.setCell (by simp) _).setCell (by simp) _).setCell (by simp) _
set_option maxRecDepth 100000 in
set_option maxHeartbeats 4000000 in
theorem pure4_yes (k n : Int) (t : ByteArray) (A Q : Value) (w : World) (HR : Hid (∀ (h : Nat) (u : World), Below w.heap.size w u → h < u.heap.size → u.cell? ⟨h, 0, none⟩ = some (.func (.func 55) #[] #[]) → Calls Try.prog 66 #[A, Q, .pointer (some ⟨h, 0, none⟩)] u fun e w' => e = .returned (.tuple #[.agg #[.int .i64 k, .int .i64 n, .string t], .bool true]) ∧ Below u.heap.size u w')) :
    Calls Try.prog 27 #[.int .i64 4, A, Q] w fun e w' => e = .returned ((if k = 3 ∧ ¬ (-999999999 ≤ n ∧ n ≤ 999999999) then .tuple #[.agg #[.int .i64 0, .int .i64 0, .string ⟨#[]⟩], .string ⟨#[110, 117, 109, 98, 101, 114, 32, 116, 111, 111, 32, 108, 97, 114, 103, 101]⟩] else .tuple #[.agg #[.int .i64 k, .int .i64 n, .string t], .string ⟨#[]⟩])) ∧ Below w.heap.size w w' := by
  obtain ⟨W1, hW1⟩ : ∃ W1, W1 = w.alloc (.cells #[.int .i64 0, .int .i64 0, .string ⟨#[]⟩] 27) := ⟨_, rfl⟩
  have B1 : Below w.heap.size w W1 := by rw [hW1]; exact (Below.refl _ _).alloc (Nat.le_refl _) _
  have z1 : w.heap.size < W1.heap.size := by rw [hW1]; simp
  have R0 : D.Blk W1 w.heap.size 27 #[.int .i64 0, .int .i64 0, .string ⟨#[]⟩] := by rw [hW1]; exact D.Blk.new _ _ _
  obtain ⟨V, hV⟩ : ∃ V : Value, V = (if k = 3 ∧ ¬ (-999999999 ≤ n ∧ n ≤ 999999999) then .tuple #[.agg #[.int .i64 0, .int .i64 0, .string ⟨#[]⟩], .string ⟨#[110, 117, 109, 98, 101, 114, 32, 116, 111, 111, 32, 108, 97, 114, 103, 101]⟩] else .tuple #[.agg #[.int .i64 k, .int .i64 n, .string t], .string ⟨#[]⟩]) := ⟨_, rfl⟩
  rw [← hV]
  have HV := Lib.hid hV
  clear hV
  go_enter Try.func27, Try.ntmps27
  go_upto_region 1 with fail
  rw [← hW1]
  clear hW1
  go_wp2_with fail
  (with_reducible refine (primRules_any W1).mono ?_)
  rintro e w2 ⟨g, h0, h1, h2, h3, h4, h6, h7, h8, h9, h10, h12, rfl, HG, hg, u0, u1, u2, u3, u4, u6, u7, u8, u9, u10, u12, hb2⟩
  have c1 : w2.cell? ⟨g, 9, none⟩ = some (.func (.func 66) #[] #[.pointer (some ⟨h4, 0, none⟩)]) := HG.row.cell 9
  have cf := HG.c4
  clear HG
  have R2 := R0.below hb2 z1
  have z2 := hb2.size
  have b2 := B1.trans (hb2.mono (by omega))
  have HC : Hid (Calls Try.prog 66 #[A, Q, .pointer (some ⟨h4, 0, none⟩)] w2 fun e w' => e = .returned (.tuple #[.agg #[.int .i64 k, .int .i64 n, .string t], .bool true]) ∧ Below w2.heap.size w2 w') := HR.out h4 w2 b2 u4 cf
  clear u0 u1 u2 u3 u4 u6 u7 u8 u9 u10 u12 cf HR
  go_wp2_with fail
  (with_reducible refine HC.out.mono ?_)
  rintro e w3 ⟨rfl, hb3⟩
  clear HC c1
  have R3 := R2.below hb3 (by omega)
  have z3 := hb3.size
  have b3 := b2.trans (hb3.mono (by omega))
  go_upto_region 2 with fail
  obtain ⟨W4, hW4⟩ : ∃ W4, W4 = w3.alloc (.cells #[.int .i64 k, .int .i64 n, .string t] 27) := ⟨_, rfl⟩
  rw [← hW4]
  have h4 : Below w3.heap.size w3 W4 := by rw [hW4]; exact (Below.refl _ _).alloc (Nat.le_refl _) _
  have XV : D.Blk W4 w3.heap.size 27 #[.int .i64 k, .int .i64 n, .string t] := by rw [hW4]; exact D.Blk.new _ _ _
  have z4 := h4.size
  clear hW4
  have b4 := b3.trans (h4.mono (by omega))
  have R4 := R3.below h4 (by omega)
  have v0 : W4.cell? ⟨w3.heap.size, 0, none⟩ = some (.int .i64 k) := XV.cell 0
  have v1 : W4.cell? ⟨w3.heap.size, 1, none⟩ = some (.int .i64 n) := XV.cell 1
  have v2 : W4.cell? ⟨w3.heap.size, 2, none⟩ = some (.string t) := XV.cell 2
  have r0 : World.cell? W4 ⟨w.heap.size, 0, none⟩ = some (.int .i64 0) := R4.cell 0; have r1 : World.cell? W4 ⟨w.heap.size, 1, none⟩ = some (.int .i64 0) := R4.cell 1; have r2 : World.cell? W4 ⟨w.heap.size, 2, none⟩ = some (.string ⟨#[]⟩) := R4.cell 2; have g0 := R4.frozen 0; have g1 := R4.frozen 1; have g2 := R4.frozen 2
  clear XV R0 R2 R3 hb2 hb3
  by_cases hk : k = 3
  · by_cases hn : -999999999 ≤ n ∧ n ≤ 999999999
    · have hq : V = (.tuple #[.agg #[.int .i64 k, .int .i64 n, .string t], .string ⟨#[]⟩]) := HV.out.trans (if_neg fun h => h.2 hn)
      have HQ := Lib.hid hq
      clear hq
      have qn := decide_eq_true hn
      have ek : (k == 3) = true := by simp [hk]
      clear hk hn
      go_wp2_with fail
      (with_reducible refine (isNumber_any n W4).mono ?_)
      rintro e w5 ⟨rfl, rfl⟩
      rw [qn]
      go_wp2_with fail
      refine bodyPost_ret (v := .tuple #[.agg #[.int .i64 k, .int .i64 n, .string t], .string ⟨#[]⟩]) (by simp [results, Try.results27, go_sem, r0, r1, r2]) rfl ⟨by rw [HQ.out], ?_⟩
      exact ((b4.setCell (by simp) _).setCell (by simp) _).setCell (by simp) _
    · have hq : V = (.tuple #[.agg #[.int .i64 0, .int .i64 0, .string ⟨#[]⟩], .string ⟨#[110, 117, 109, 98, 101, 114, 32, 116, 111, 111, 32, 108, 97, 114, 103, 101]⟩]) := HV.out.trans (if_pos ⟨hk, hn⟩)
      have HQ := Lib.hid hq
      clear hq
      have qn := decide_eq_false hn
      have ek : (k == 3) = true := by simp [hk]
      clear hk hn
      go_wp2_with fail
      (with_reducible refine (isNumber_any n W4).mono ?_)
      rintro e w5 ⟨rfl, rfl⟩
      rw [qn]
      go_wp2_with fail
      refine bodyPost_ret (v := .tuple #[.agg #[.int .i64 0, .int .i64 0, .string ⟨#[]⟩], .string ⟨#[110, 117, 109, 98, 101, 114, 32, 116, 111, 111, 32, 108, 97, 114, 103, 101]⟩]) (by simp [results, Try.results27, go_sem, r0, r1, r2]) rfl ⟨by rw [HQ.out], ?_⟩
      exact ((b4.setCell (by simp) _).setCell (by simp) _).setCell (by simp) _
  · have hq : V = (.tuple #[.agg #[.int .i64 k, .int .i64 n, .string t], .string ⟨#[]⟩]) := HV.out.trans (if_neg fun h => hk h.1)
    have HQ := Lib.hid hq
    clear hq
    have ek : (k == 3) = false := by simp [hk]
    clear hk
    go_wp2_with fail
    refine bodyPost_ret (v := .tuple #[.agg #[.int .i64 k, .int .i64 n, .string t], .string ⟨#[]⟩]) (by simp [results, Try.results27, go_sem, r0, r1, r2]) rfl ⟨by rw [HQ.out], ?_⟩
    exact ((b4.setCell (by simp) _).setCell (by simp) _).setCell (by simp) _
theorem pure6_cat : (⟨#[99, 97, 114]⟩ : ByteArray) ++ ⟨#[58, 32, 98, 97, 100, 32, 97, 114, 103, 117, 109, 101, 110, 116]⟩ = ⟨#[99, 97, 114, 58, 32, 98, 97, 100, 32, 97, 114, 103, 117, 109, 101, 110, 116]⟩ := by decide
set_option maxRecDepth 100000 in
set_option maxHeartbeats 4000000 in
theorem pure6_no (A Q : Value) (w : World) (HR : Hid (∀ (h : Nat) (u : World), Below w.heap.size w u → h < u.heap.size → u.cell? ⟨h, 0, none⟩ = some (.func (.func 57) #[] #[]) → Calls Try.prog 67 #[A, Q, .pointer (some ⟨h, 0, none⟩)] u fun e w' => e = .returned (.tuple #[.agg #[.int .i64 0, .int .i64 0, .string ⟨#[]⟩], .bool false]) ∧ Below u.heap.size u w')) :
    Calls Try.prog 27 #[.int .i64 6, A, Q] w fun e w' => e = .returned (.tuple #[.agg #[.int .i64 0, .int .i64 0, .string ⟨#[]⟩], .string ⟨#[99, 97, 114, 58, 32, 98, 97, 100, 32, 97, 114, 103, 117, 109, 101, 110, 116]⟩]) ∧ Below w.heap.size w w' := by
  obtain ⟨W1, hW1⟩ : ∃ W1, W1 = w.alloc (.cells #[.int .i64 0, .int .i64 0, .string ⟨#[]⟩] 27) := ⟨_, rfl⟩
  have B1 : Below w.heap.size w W1 := by rw [hW1]; exact (Below.refl _ _).alloc (Nat.le_refl _) _
  have z1 : w.heap.size < W1.heap.size := by rw [hW1]; simp
  have R0 : D.Blk W1 w.heap.size 27 #[.int .i64 0, .int .i64 0, .string ⟨#[]⟩] := by rw [hW1]; exact D.Blk.new _ _ _
  go_enter Try.func27, Try.ntmps27
  go_upto_region 1 with fail
  rw [← hW1]
  clear hW1
  go_wp2_with fail
  (with_reducible refine (primRules_any W1).mono ?_)
  rintro e w2 ⟨g, h0, h1, h2, h3, h4, h6, h7, h8, h9, h10, h12, rfl, HG, hg, u0, u1, u2, u3, u4, u6, u7, u8, u9, u10, u12, hb2⟩
  have c1 : w2.cell? ⟨g, 13, none⟩ = some (.func (.func 67) #[] #[.pointer (some ⟨h6, 0, none⟩)]) := HG.row.cell 13
  have cf := HG.c6
  clear HG
  have R2 := R0.below hb2 z1
  have z2 := hb2.size
  have b2 := B1.trans (hb2.mono (by omega))
  have HC : Hid (Calls Try.prog 67 #[A, Q, .pointer (some ⟨h6, 0, none⟩)] w2 fun e w' => e = .returned (.tuple #[.agg #[.int .i64 0, .int .i64 0, .string ⟨#[]⟩], .bool false]) ∧ Below w2.heap.size w2 w') := HR.out h6 w2 b2 u6 cf
  clear u0 u1 u2 u3 u4 u6 u7 u8 u9 u10 u12 cf HR
  go_wp2_with fail
  (with_reducible refine HC.out.mono ?_)
  rintro e w3 ⟨rfl, hb3⟩
  clear HC c1
  have R3 := R2.below hb3 (by omega)
  have z3 := hb3.size
  have b3 := b2.trans (hb3.mono (by omega))
  go_upto_region 2 with fail
  obtain ⟨W4, hW4⟩ : ∃ W4, W4 = w3.alloc (.cells #[.int .i64 0, .int .i64 0, .string ⟨#[]⟩] 27) := ⟨_, rfl⟩
  rw [← hW4]
  have h4 : Below w3.heap.size w3 W4 := by rw [hW4]; exact (Below.refl _ _).alloc (Nat.le_refl _) _
  have XV : D.Blk W4 w3.heap.size 27 #[.int .i64 0, .int .i64 0, .string ⟨#[]⟩] := by rw [hW4]; exact D.Blk.new _ _ _
  have z4 := h4.size
  clear hW4
  have b4 := b3.trans (h4.mono (by omega))
  have R4 := R3.below h4 (by omega)
  have v0 : W4.cell? ⟨w3.heap.size, 0, none⟩ = some (.int .i64 0) := XV.cell 0
  have v1 : W4.cell? ⟨w3.heap.size, 1, none⟩ = some (.int .i64 0) := XV.cell 1
  have v2 : W4.cell? ⟨w3.heap.size, 2, none⟩ = some (.string ⟨#[]⟩) := XV.cell 2
  have r0 : World.cell? W4 ⟨w.heap.size, 0, none⟩ = some (.int .i64 0) := R4.cell 0; have r1 : World.cell? W4 ⟨w.heap.size, 1, none⟩ = some (.int .i64 0) := R4.cell 1; have r2 : World.cell? W4 ⟨w.heap.size, 2, none⟩ = some (.string ⟨#[]⟩) := R4.cell 2; have g0 := R4.frozen 0; have g1 := R4.frozen 1; have g2 := R4.frozen 2
  clear XV R0 R2 R3 hb2 hb3
  go_wp2_with fail
  go_region_with (first | (go_at_call 41; (with_reducible refine (iprimN_x _).mono ?_); rintro e w5 ⟨rfl, hn5, hb5⟩; have n0 : World.cell? w5 ⟨W4.heap.size, 6, none⟩ = some (.string ⟨#[99, 97, 114]⟩) := hn5.cell 6; have hb6 : Below W4.heap.size W4 w5 := below_undrew hb5; have R5 := R4.below hb6 (by omega); have r0 : World.cell? w5 ⟨w.heap.size, 0, none⟩ = some (.int .i64 0) := R5.cell 0; have r1 : World.cell? w5 ⟨w.heap.size, 1, none⟩ = some (.int .i64 0) := R5.cell 1; have r2 : World.cell? w5 ⟨w.heap.size, 2, none⟩ = some (.string ⟨#[]⟩) := R5.cell 2; have g0 := R5.frozen 0; have g1 := R5.frozen 1; have g2 := R5.frozen 2))
  all_goals go_wp2_with fail
  all_goals refine bodyPost_ret (v := .tuple #[.agg #[.int .i64 0, .int .i64 0, .string ⟨#[]⟩], .string ⟨#[99, 97, 114, 58, 32, 98, 97, 100, 32, 97, 114, 103, 117, 109, 101, 110, 116]⟩]) (by simp [results, Try.results27, go_sem, r0, r1, r2]; (first | done | rfl | exact pure6_cat)) rfl ⟨rfl, ?_⟩
  all_goals (have b5 := b4.trans (hb6.mono (by omega)))
  all_goals exact ((b5.setCell (by simp) _).setCell (by simp) _).setCell (by simp) _
set_option maxRecDepth 100000 in
set_option maxHeartbeats 4000000 in
theorem pure6_yes (k n : Int) (t : ByteArray) (A Q : Value) (w : World) (HR : Hid (∀ (h : Nat) (u : World), Below w.heap.size w u → h < u.heap.size → u.cell? ⟨h, 0, none⟩ = some (.func (.func 57) #[] #[]) → Calls Try.prog 67 #[A, Q, .pointer (some ⟨h, 0, none⟩)] u fun e w' => e = .returned (.tuple #[.agg #[.int .i64 k, .int .i64 n, .string t], .bool true]) ∧ Below u.heap.size u w')) :
    Calls Try.prog 27 #[.int .i64 6, A, Q] w fun e w' => e = .returned ((if k = 3 ∧ ¬ (-999999999 ≤ n ∧ n ≤ 999999999) then .tuple #[.agg #[.int .i64 0, .int .i64 0, .string ⟨#[]⟩], .string ⟨#[110, 117, 109, 98, 101, 114, 32, 116, 111, 111, 32, 108, 97, 114, 103, 101]⟩] else .tuple #[.agg #[.int .i64 k, .int .i64 n, .string t], .string ⟨#[]⟩])) ∧ Below w.heap.size w w' := by
  obtain ⟨W1, hW1⟩ : ∃ W1, W1 = w.alloc (.cells #[.int .i64 0, .int .i64 0, .string ⟨#[]⟩] 27) := ⟨_, rfl⟩
  have B1 : Below w.heap.size w W1 := by rw [hW1]; exact (Below.refl _ _).alloc (Nat.le_refl _) _
  have z1 : w.heap.size < W1.heap.size := by rw [hW1]; simp
  have R0 : D.Blk W1 w.heap.size 27 #[.int .i64 0, .int .i64 0, .string ⟨#[]⟩] := by rw [hW1]; exact D.Blk.new _ _ _
  obtain ⟨V, hV⟩ : ∃ V : Value, V = (if k = 3 ∧ ¬ (-999999999 ≤ n ∧ n ≤ 999999999) then .tuple #[.agg #[.int .i64 0, .int .i64 0, .string ⟨#[]⟩], .string ⟨#[110, 117, 109, 98, 101, 114, 32, 116, 111, 111, 32, 108, 97, 114, 103, 101]⟩] else .tuple #[.agg #[.int .i64 k, .int .i64 n, .string t], .string ⟨#[]⟩]) := ⟨_, rfl⟩
  rw [← hV]
  have HV := Lib.hid hV
  clear hV
  go_enter Try.func27, Try.ntmps27
  go_upto_region 1 with fail
  rw [← hW1]
  clear hW1
  go_wp2_with fail
  (with_reducible refine (primRules_any W1).mono ?_)
  rintro e w2 ⟨g, h0, h1, h2, h3, h4, h6, h7, h8, h9, h10, h12, rfl, HG, hg, u0, u1, u2, u3, u4, u6, u7, u8, u9, u10, u12, hb2⟩
  have c1 : w2.cell? ⟨g, 13, none⟩ = some (.func (.func 67) #[] #[.pointer (some ⟨h6, 0, none⟩)]) := HG.row.cell 13
  have cf := HG.c6
  clear HG
  have R2 := R0.below hb2 z1
  have z2 := hb2.size
  have b2 := B1.trans (hb2.mono (by omega))
  have HC : Hid (Calls Try.prog 67 #[A, Q, .pointer (some ⟨h6, 0, none⟩)] w2 fun e w' => e = .returned (.tuple #[.agg #[.int .i64 k, .int .i64 n, .string t], .bool true]) ∧ Below w2.heap.size w2 w') := HR.out h6 w2 b2 u6 cf
  clear u0 u1 u2 u3 u4 u6 u7 u8 u9 u10 u12 cf HR
  go_wp2_with fail
  (with_reducible refine HC.out.mono ?_)
  rintro e w3 ⟨rfl, hb3⟩
  clear HC c1
  have R3 := R2.below hb3 (by omega)
  have z3 := hb3.size
  have b3 := b2.trans (hb3.mono (by omega))
  go_upto_region 2 with fail
  obtain ⟨W4, hW4⟩ : ∃ W4, W4 = w3.alloc (.cells #[.int .i64 k, .int .i64 n, .string t] 27) := ⟨_, rfl⟩
  rw [← hW4]
  have h4 : Below w3.heap.size w3 W4 := by rw [hW4]; exact (Below.refl _ _).alloc (Nat.le_refl _) _
  have XV : D.Blk W4 w3.heap.size 27 #[.int .i64 k, .int .i64 n, .string t] := by rw [hW4]; exact D.Blk.new _ _ _
  have z4 := h4.size
  clear hW4
  have b4 := b3.trans (h4.mono (by omega))
  have R4 := R3.below h4 (by omega)
  have v0 : W4.cell? ⟨w3.heap.size, 0, none⟩ = some (.int .i64 k) := XV.cell 0
  have v1 : W4.cell? ⟨w3.heap.size, 1, none⟩ = some (.int .i64 n) := XV.cell 1
  have v2 : W4.cell? ⟨w3.heap.size, 2, none⟩ = some (.string t) := XV.cell 2
  have r0 : World.cell? W4 ⟨w.heap.size, 0, none⟩ = some (.int .i64 0) := R4.cell 0; have r1 : World.cell? W4 ⟨w.heap.size, 1, none⟩ = some (.int .i64 0) := R4.cell 1; have r2 : World.cell? W4 ⟨w.heap.size, 2, none⟩ = some (.string ⟨#[]⟩) := R4.cell 2; have g0 := R4.frozen 0; have g1 := R4.frozen 1; have g2 := R4.frozen 2
  clear XV R0 R2 R3 hb2 hb3
  by_cases hk : k = 3
  · by_cases hn : -999999999 ≤ n ∧ n ≤ 999999999
    · have hq : V = (.tuple #[.agg #[.int .i64 k, .int .i64 n, .string t], .string ⟨#[]⟩]) := HV.out.trans (if_neg fun h => h.2 hn)
      have HQ := Lib.hid hq
      clear hq
      have qn := decide_eq_true hn
      have ek : (k == 3) = true := by simp [hk]
      clear hk hn
      go_wp2_with fail
      (with_reducible refine (isNumber_any n W4).mono ?_)
      rintro e w5 ⟨rfl, rfl⟩
      rw [qn]
      go_wp2_with fail
      refine bodyPost_ret (v := .tuple #[.agg #[.int .i64 k, .int .i64 n, .string t], .string ⟨#[]⟩]) (by simp [results, Try.results27, go_sem, r0, r1, r2]) rfl ⟨by rw [HQ.out], ?_⟩
      exact ((b4.setCell (by simp) _).setCell (by simp) _).setCell (by simp) _
    · have hq : V = (.tuple #[.agg #[.int .i64 0, .int .i64 0, .string ⟨#[]⟩], .string ⟨#[110, 117, 109, 98, 101, 114, 32, 116, 111, 111, 32, 108, 97, 114, 103, 101]⟩]) := HV.out.trans (if_pos ⟨hk, hn⟩)
      have HQ := Lib.hid hq
      clear hq
      have qn := decide_eq_false hn
      have ek : (k == 3) = true := by simp [hk]
      clear hk hn
      go_wp2_with fail
      (with_reducible refine (isNumber_any n W4).mono ?_)
      rintro e w5 ⟨rfl, rfl⟩
      rw [qn]
      go_wp2_with fail
      refine bodyPost_ret (v := .tuple #[.agg #[.int .i64 0, .int .i64 0, .string ⟨#[]⟩], .string ⟨#[110, 117, 109, 98, 101, 114, 32, 116, 111, 111, 32, 108, 97, 114, 103, 101]⟩]) (by simp [results, Try.results27, go_sem, r0, r1, r2]) rfl ⟨by rw [HQ.out], ?_⟩
      exact ((b4.setCell (by simp) _).setCell (by simp) _).setCell (by simp) _
  · have hq : V = (.tuple #[.agg #[.int .i64 k, .int .i64 n, .string t], .string ⟨#[]⟩]) := HV.out.trans (if_neg fun h => hk h.1)
    have HQ := Lib.hid hq
    clear hq
    have ek : (k == 3) = false := by simp [hk]
    clear hk
    go_wp2_with fail
    refine bodyPost_ret (v := .tuple #[.agg #[.int .i64 k, .int .i64 n, .string t], .string ⟨#[]⟩]) (by simp [results, Try.results27, go_sem, r0, r1, r2]) rfl ⟨by rw [HQ.out], ?_⟩
    exact ((b4.setCell (by simp) _).setCell (by simp) _).setCell (by simp) _
theorem pure7_cat : (⟨#[99, 100, 114]⟩ : ByteArray) ++ ⟨#[58, 32, 98, 97, 100, 32, 97, 114, 103, 117, 109, 101, 110, 116]⟩ = ⟨#[99, 100, 114, 58, 32, 98, 97, 100, 32, 97, 114, 103, 117, 109, 101, 110, 116]⟩ := by decide
set_option maxRecDepth 100000 in
set_option maxHeartbeats 4000000 in
theorem pure7_no (A Q : Value) (w : World) (HR : Hid (∀ (h : Nat) (u : World), Below w.heap.size w u → h < u.heap.size → u.cell? ⟨h, 0, none⟩ = some (.func (.func 58) #[] #[]) → Calls Try.prog 67 #[A, Q, .pointer (some ⟨h, 0, none⟩)] u fun e w' => e = .returned (.tuple #[.agg #[.int .i64 0, .int .i64 0, .string ⟨#[]⟩], .bool false]) ∧ Below u.heap.size u w')) :
    Calls Try.prog 27 #[.int .i64 7, A, Q] w fun e w' => e = .returned (.tuple #[.agg #[.int .i64 0, .int .i64 0, .string ⟨#[]⟩], .string ⟨#[99, 100, 114, 58, 32, 98, 97, 100, 32, 97, 114, 103, 117, 109, 101, 110, 116]⟩]) ∧ Below w.heap.size w w' := by
  obtain ⟨W1, hW1⟩ : ∃ W1, W1 = w.alloc (.cells #[.int .i64 0, .int .i64 0, .string ⟨#[]⟩] 27) := ⟨_, rfl⟩
  have B1 : Below w.heap.size w W1 := by rw [hW1]; exact (Below.refl _ _).alloc (Nat.le_refl _) _
  have z1 : w.heap.size < W1.heap.size := by rw [hW1]; simp
  have R0 : D.Blk W1 w.heap.size 27 #[.int .i64 0, .int .i64 0, .string ⟨#[]⟩] := by rw [hW1]; exact D.Blk.new _ _ _
  go_enter Try.func27, Try.ntmps27
  go_upto_region 1 with fail
  rw [← hW1]
  clear hW1
  go_wp2_with fail
  (with_reducible refine (primRules_any W1).mono ?_)
  rintro e w2 ⟨g, h0, h1, h2, h3, h4, h6, h7, h8, h9, h10, h12, rfl, HG, hg, u0, u1, u2, u3, u4, u6, u7, u8, u9, u10, u12, hb2⟩
  have c1 : w2.cell? ⟨g, 15, none⟩ = some (.func (.func 67) #[] #[.pointer (some ⟨h7, 0, none⟩)]) := HG.row.cell 15
  have cf := HG.c7
  clear HG
  have R2 := R0.below hb2 z1
  have z2 := hb2.size
  have b2 := B1.trans (hb2.mono (by omega))
  have HC : Hid (Calls Try.prog 67 #[A, Q, .pointer (some ⟨h7, 0, none⟩)] w2 fun e w' => e = .returned (.tuple #[.agg #[.int .i64 0, .int .i64 0, .string ⟨#[]⟩], .bool false]) ∧ Below w2.heap.size w2 w') := HR.out h7 w2 b2 u7 cf
  clear u0 u1 u2 u3 u4 u6 u7 u8 u9 u10 u12 cf HR
  go_wp2_with fail
  (with_reducible refine HC.out.mono ?_)
  rintro e w3 ⟨rfl, hb3⟩
  clear HC c1
  have R3 := R2.below hb3 (by omega)
  have z3 := hb3.size
  have b3 := b2.trans (hb3.mono (by omega))
  go_upto_region 2 with fail
  obtain ⟨W4, hW4⟩ : ∃ W4, W4 = w3.alloc (.cells #[.int .i64 0, .int .i64 0, .string ⟨#[]⟩] 27) := ⟨_, rfl⟩
  rw [← hW4]
  have h4 : Below w3.heap.size w3 W4 := by rw [hW4]; exact (Below.refl _ _).alloc (Nat.le_refl _) _
  have XV : D.Blk W4 w3.heap.size 27 #[.int .i64 0, .int .i64 0, .string ⟨#[]⟩] := by rw [hW4]; exact D.Blk.new _ _ _
  have z4 := h4.size
  clear hW4
  have b4 := b3.trans (h4.mono (by omega))
  have R4 := R3.below h4 (by omega)
  have v0 : W4.cell? ⟨w3.heap.size, 0, none⟩ = some (.int .i64 0) := XV.cell 0
  have v1 : W4.cell? ⟨w3.heap.size, 1, none⟩ = some (.int .i64 0) := XV.cell 1
  have v2 : W4.cell? ⟨w3.heap.size, 2, none⟩ = some (.string ⟨#[]⟩) := XV.cell 2
  have r0 : World.cell? W4 ⟨w.heap.size, 0, none⟩ = some (.int .i64 0) := R4.cell 0; have r1 : World.cell? W4 ⟨w.heap.size, 1, none⟩ = some (.int .i64 0) := R4.cell 1; have r2 : World.cell? W4 ⟨w.heap.size, 2, none⟩ = some (.string ⟨#[]⟩) := R4.cell 2; have g0 := R4.frozen 0; have g1 := R4.frozen 1; have g2 := R4.frozen 2
  clear XV R0 R2 R3 hb2 hb3
  go_wp2_with fail
  go_region_with (first | (go_at_call 41; (with_reducible refine (iprimN_x _).mono ?_); rintro e w5 ⟨rfl, hn5, hb5⟩; have n0 : World.cell? w5 ⟨W4.heap.size, 7, none⟩ = some (.string ⟨#[99, 100, 114]⟩) := hn5.cell 7; have hb6 : Below W4.heap.size W4 w5 := below_undrew hb5; have R5 := R4.below hb6 (by omega); have r0 : World.cell? w5 ⟨w.heap.size, 0, none⟩ = some (.int .i64 0) := R5.cell 0; have r1 : World.cell? w5 ⟨w.heap.size, 1, none⟩ = some (.int .i64 0) := R5.cell 1; have r2 : World.cell? w5 ⟨w.heap.size, 2, none⟩ = some (.string ⟨#[]⟩) := R5.cell 2; have g0 := R5.frozen 0; have g1 := R5.frozen 1; have g2 := R5.frozen 2))
  all_goals go_wp2_with fail
  all_goals refine bodyPost_ret (v := .tuple #[.agg #[.int .i64 0, .int .i64 0, .string ⟨#[]⟩], .string ⟨#[99, 100, 114, 58, 32, 98, 97, 100, 32, 97, 114, 103, 117, 109, 101, 110, 116]⟩]) (by simp [results, Try.results27, go_sem, r0, r1, r2]; (first | done | rfl | exact pure7_cat)) rfl ⟨rfl, ?_⟩
  all_goals (have b5 := b4.trans (hb6.mono (by omega)))
  all_goals exact ((b5.setCell (by simp) _).setCell (by simp) _).setCell (by simp) _
set_option maxRecDepth 100000 in
set_option maxHeartbeats 4000000 in
theorem pure7_yes (k n : Int) (t : ByteArray) (A Q : Value) (w : World) (HR : Hid (∀ (h : Nat) (u : World), Below w.heap.size w u → h < u.heap.size → u.cell? ⟨h, 0, none⟩ = some (.func (.func 58) #[] #[]) → Calls Try.prog 67 #[A, Q, .pointer (some ⟨h, 0, none⟩)] u fun e w' => e = .returned (.tuple #[.agg #[.int .i64 k, .int .i64 n, .string t], .bool true]) ∧ Below u.heap.size u w')) :
    Calls Try.prog 27 #[.int .i64 7, A, Q] w fun e w' => e = .returned ((if k = 3 ∧ ¬ (-999999999 ≤ n ∧ n ≤ 999999999) then .tuple #[.agg #[.int .i64 0, .int .i64 0, .string ⟨#[]⟩], .string ⟨#[110, 117, 109, 98, 101, 114, 32, 116, 111, 111, 32, 108, 97, 114, 103, 101]⟩] else .tuple #[.agg #[.int .i64 k, .int .i64 n, .string t], .string ⟨#[]⟩])) ∧ Below w.heap.size w w' := by
  obtain ⟨W1, hW1⟩ : ∃ W1, W1 = w.alloc (.cells #[.int .i64 0, .int .i64 0, .string ⟨#[]⟩] 27) := ⟨_, rfl⟩
  have B1 : Below w.heap.size w W1 := by rw [hW1]; exact (Below.refl _ _).alloc (Nat.le_refl _) _
  have z1 : w.heap.size < W1.heap.size := by rw [hW1]; simp
  have R0 : D.Blk W1 w.heap.size 27 #[.int .i64 0, .int .i64 0, .string ⟨#[]⟩] := by rw [hW1]; exact D.Blk.new _ _ _
  obtain ⟨V, hV⟩ : ∃ V : Value, V = (if k = 3 ∧ ¬ (-999999999 ≤ n ∧ n ≤ 999999999) then .tuple #[.agg #[.int .i64 0, .int .i64 0, .string ⟨#[]⟩], .string ⟨#[110, 117, 109, 98, 101, 114, 32, 116, 111, 111, 32, 108, 97, 114, 103, 101]⟩] else .tuple #[.agg #[.int .i64 k, .int .i64 n, .string t], .string ⟨#[]⟩]) := ⟨_, rfl⟩
  rw [← hV]
  have HV := Lib.hid hV
  clear hV
  go_enter Try.func27, Try.ntmps27
  go_upto_region 1 with fail
  rw [← hW1]
  clear hW1
  go_wp2_with fail
  (with_reducible refine (primRules_any W1).mono ?_)
  rintro e w2 ⟨g, h0, h1, h2, h3, h4, h6, h7, h8, h9, h10, h12, rfl, HG, hg, u0, u1, u2, u3, u4, u6, u7, u8, u9, u10, u12, hb2⟩
  have c1 : w2.cell? ⟨g, 15, none⟩ = some (.func (.func 67) #[] #[.pointer (some ⟨h7, 0, none⟩)]) := HG.row.cell 15
  have cf := HG.c7
  clear HG
  have R2 := R0.below hb2 z1
  have z2 := hb2.size
  have b2 := B1.trans (hb2.mono (by omega))
  have HC : Hid (Calls Try.prog 67 #[A, Q, .pointer (some ⟨h7, 0, none⟩)] w2 fun e w' => e = .returned (.tuple #[.agg #[.int .i64 k, .int .i64 n, .string t], .bool true]) ∧ Below w2.heap.size w2 w') := HR.out h7 w2 b2 u7 cf
  clear u0 u1 u2 u3 u4 u6 u7 u8 u9 u10 u12 cf HR
  go_wp2_with fail
  (with_reducible refine HC.out.mono ?_)
  rintro e w3 ⟨rfl, hb3⟩
  clear HC c1
  have R3 := R2.below hb3 (by omega)
  have z3 := hb3.size
  have b3 := b2.trans (hb3.mono (by omega))
  go_upto_region 2 with fail
  obtain ⟨W4, hW4⟩ : ∃ W4, W4 = w3.alloc (.cells #[.int .i64 k, .int .i64 n, .string t] 27) := ⟨_, rfl⟩
  rw [← hW4]
  have h4 : Below w3.heap.size w3 W4 := by rw [hW4]; exact (Below.refl _ _).alloc (Nat.le_refl _) _
  have XV : D.Blk W4 w3.heap.size 27 #[.int .i64 k, .int .i64 n, .string t] := by rw [hW4]; exact D.Blk.new _ _ _
  have z4 := h4.size
  clear hW4
  have b4 := b3.trans (h4.mono (by omega))
  have R4 := R3.below h4 (by omega)
  have v0 : W4.cell? ⟨w3.heap.size, 0, none⟩ = some (.int .i64 k) := XV.cell 0
  have v1 : W4.cell? ⟨w3.heap.size, 1, none⟩ = some (.int .i64 n) := XV.cell 1
  have v2 : W4.cell? ⟨w3.heap.size, 2, none⟩ = some (.string t) := XV.cell 2
  have r0 : World.cell? W4 ⟨w.heap.size, 0, none⟩ = some (.int .i64 0) := R4.cell 0; have r1 : World.cell? W4 ⟨w.heap.size, 1, none⟩ = some (.int .i64 0) := R4.cell 1; have r2 : World.cell? W4 ⟨w.heap.size, 2, none⟩ = some (.string ⟨#[]⟩) := R4.cell 2; have g0 := R4.frozen 0; have g1 := R4.frozen 1; have g2 := R4.frozen 2
  clear XV R0 R2 R3 hb2 hb3
  by_cases hk : k = 3
  · by_cases hn : -999999999 ≤ n ∧ n ≤ 999999999
    · have hq : V = (.tuple #[.agg #[.int .i64 k, .int .i64 n, .string t], .string ⟨#[]⟩]) := HV.out.trans (if_neg fun h => h.2 hn)
      have HQ := Lib.hid hq
      clear hq
      have qn := decide_eq_true hn
      have ek : (k == 3) = true := by simp [hk]
      clear hk hn
      go_wp2_with fail
      (with_reducible refine (isNumber_any n W4).mono ?_)
      rintro e w5 ⟨rfl, rfl⟩
      rw [qn]
      go_wp2_with fail
      refine bodyPost_ret (v := .tuple #[.agg #[.int .i64 k, .int .i64 n, .string t], .string ⟨#[]⟩]) (by simp [results, Try.results27, go_sem, r0, r1, r2]) rfl ⟨by rw [HQ.out], ?_⟩
      exact ((b4.setCell (by simp) _).setCell (by simp) _).setCell (by simp) _
    · have hq : V = (.tuple #[.agg #[.int .i64 0, .int .i64 0, .string ⟨#[]⟩], .string ⟨#[110, 117, 109, 98, 101, 114, 32, 116, 111, 111, 32, 108, 97, 114, 103, 101]⟩]) := HV.out.trans (if_pos ⟨hk, hn⟩)
      have HQ := Lib.hid hq
      clear hq
      have qn := decide_eq_false hn
      have ek : (k == 3) = true := by simp [hk]
      clear hk hn
      go_wp2_with fail
      (with_reducible refine (isNumber_any n W4).mono ?_)
      rintro e w5 ⟨rfl, rfl⟩
      rw [qn]
      go_wp2_with fail
      refine bodyPost_ret (v := .tuple #[.agg #[.int .i64 0, .int .i64 0, .string ⟨#[]⟩], .string ⟨#[110, 117, 109, 98, 101, 114, 32, 116, 111, 111, 32, 108, 97, 114, 103, 101]⟩]) (by simp [results, Try.results27, go_sem, r0, r1, r2]) rfl ⟨by rw [HQ.out], ?_⟩
      exact ((b4.setCell (by simp) _).setCell (by simp) _).setCell (by simp) _
  · have hq : V = (.tuple #[.agg #[.int .i64 k, .int .i64 n, .string t], .string ⟨#[]⟩]) := HV.out.trans (if_neg fun h => hk h.1)
    have HQ := Lib.hid hq
    clear hq
    have ek : (k == 3) = false := by simp [hk]
    clear hk
    go_wp2_with fail
    refine bodyPost_ret (v := .tuple #[.agg #[.int .i64 k, .int .i64 n, .string t], .string ⟨#[]⟩]) (by simp [results, Try.results27, go_sem, r0, r1, r2]) rfl ⟨by rw [HQ.out], ?_⟩
    exact ((b4.setCell (by simp) _).setCell (by simp) _).setCell (by simp) _
set_option maxRecDepth 100000 in
set_option maxHeartbeats 4000000 in
theorem pure8_yes (k n : Int) (t : ByteArray) (A Q : Value) (w : World) (HR : Hid (∀ (h : Nat) (u : World), Below w.heap.size w u → h < u.heap.size → u.cell? ⟨h, 0, none⟩ = some (.func (.func 60) #[] #[]) → Calls Try.prog 68 #[A, Q, .pointer (some ⟨h, 0, none⟩)] u fun e w' => e = .returned (.tuple #[.agg #[.int .i64 k, .int .i64 n, .string t], .bool true]) ∧ Below u.heap.size u w')) :
    Calls Try.prog 27 #[.int .i64 8, A, Q] w fun e w' => e = .returned ((if k = 3 ∧ ¬ (-999999999 ≤ n ∧ n ≤ 999999999) then .tuple #[.agg #[.int .i64 0, .int .i64 0, .string ⟨#[]⟩], .string ⟨#[110, 117, 109, 98, 101, 114, 32, 116, 111, 111, 32, 108, 97, 114, 103, 101]⟩] else .tuple #[.agg #[.int .i64 k, .int .i64 n, .string t], .string ⟨#[]⟩])) ∧ Below w.heap.size w w' := by
  obtain ⟨W1, hW1⟩ : ∃ W1, W1 = w.alloc (.cells #[.int .i64 0, .int .i64 0, .string ⟨#[]⟩] 27) := ⟨_, rfl⟩
  have B1 : Below w.heap.size w W1 := by rw [hW1]; exact (Below.refl _ _).alloc (Nat.le_refl _) _
  have z1 : w.heap.size < W1.heap.size := by rw [hW1]; simp
  have R0 : D.Blk W1 w.heap.size 27 #[.int .i64 0, .int .i64 0, .string ⟨#[]⟩] := by rw [hW1]; exact D.Blk.new _ _ _
  obtain ⟨V, hV⟩ : ∃ V : Value, V = (if k = 3 ∧ ¬ (-999999999 ≤ n ∧ n ≤ 999999999) then .tuple #[.agg #[.int .i64 0, .int .i64 0, .string ⟨#[]⟩], .string ⟨#[110, 117, 109, 98, 101, 114, 32, 116, 111, 111, 32, 108, 97, 114, 103, 101]⟩] else .tuple #[.agg #[.int .i64 k, .int .i64 n, .string t], .string ⟨#[]⟩]) := ⟨_, rfl⟩
  rw [← hV]
  have HV := Lib.hid hV
  clear hV
  go_enter Try.func27, Try.ntmps27
  go_upto_region 1 with fail
  rw [← hW1]
  clear hW1
  go_wp2_with fail
  (with_reducible refine (primRules_any W1).mono ?_)
  rintro e w2 ⟨g, h0, h1, h2, h3, h4, h6, h7, h8, h9, h10, h12, rfl, HG, hg, u0, u1, u2, u3, u4, u6, u7, u8, u9, u10, u12, hb2⟩
  have c1 : w2.cell? ⟨g, 17, none⟩ = some (.func (.func 68) #[] #[.pointer (some ⟨h8, 0, none⟩)]) := HG.row.cell 17
  have cf := HG.c8
  clear HG
  have R2 := R0.below hb2 z1
  have z2 := hb2.size
  have b2 := B1.trans (hb2.mono (by omega))
  have HC : Hid (Calls Try.prog 68 #[A, Q, .pointer (some ⟨h8, 0, none⟩)] w2 fun e w' => e = .returned (.tuple #[.agg #[.int .i64 k, .int .i64 n, .string t], .bool true]) ∧ Below w2.heap.size w2 w') := HR.out h8 w2 b2 u8 cf
  clear u0 u1 u2 u3 u4 u6 u7 u8 u9 u10 u12 cf HR
  go_wp2_with fail
  (with_reducible refine HC.out.mono ?_)
  rintro e w3 ⟨rfl, hb3⟩
  clear HC c1
  have R3 := R2.below hb3 (by omega)
  have z3 := hb3.size
  have b3 := b2.trans (hb3.mono (by omega))
  go_upto_region 2 with fail
  obtain ⟨W4, hW4⟩ : ∃ W4, W4 = w3.alloc (.cells #[.int .i64 k, .int .i64 n, .string t] 27) := ⟨_, rfl⟩
  rw [← hW4]
  have h4 : Below w3.heap.size w3 W4 := by rw [hW4]; exact (Below.refl _ _).alloc (Nat.le_refl _) _
  have XV : D.Blk W4 w3.heap.size 27 #[.int .i64 k, .int .i64 n, .string t] := by rw [hW4]; exact D.Blk.new _ _ _
  have z4 := h4.size
  clear hW4
  have b4 := b3.trans (h4.mono (by omega))
  have R4 := R3.below h4 (by omega)
  have v0 : W4.cell? ⟨w3.heap.size, 0, none⟩ = some (.int .i64 k) := XV.cell 0
  have v1 : W4.cell? ⟨w3.heap.size, 1, none⟩ = some (.int .i64 n) := XV.cell 1
  have v2 : W4.cell? ⟨w3.heap.size, 2, none⟩ = some (.string t) := XV.cell 2
  have r0 : World.cell? W4 ⟨w.heap.size, 0, none⟩ = some (.int .i64 0) := R4.cell 0; have r1 : World.cell? W4 ⟨w.heap.size, 1, none⟩ = some (.int .i64 0) := R4.cell 1; have r2 : World.cell? W4 ⟨w.heap.size, 2, none⟩ = some (.string ⟨#[]⟩) := R4.cell 2; have g0 := R4.frozen 0; have g1 := R4.frozen 1; have g2 := R4.frozen 2
  clear XV R0 R2 R3 hb2 hb3
  by_cases hk : k = 3
  · by_cases hn : -999999999 ≤ n ∧ n ≤ 999999999
    · have hq : V = (.tuple #[.agg #[.int .i64 k, .int .i64 n, .string t], .string ⟨#[]⟩]) := HV.out.trans (if_neg fun h => h.2 hn)
      have HQ := Lib.hid hq
      clear hq
      have qn := decide_eq_true hn
      have ek : (k == 3) = true := by simp [hk]
      clear hk hn
      go_wp2_with fail
      (with_reducible refine (isNumber_any n W4).mono ?_)
      rintro e w5 ⟨rfl, rfl⟩
      rw [qn]
      go_wp2_with fail
      refine bodyPost_ret (v := .tuple #[.agg #[.int .i64 k, .int .i64 n, .string t], .string ⟨#[]⟩]) (by simp [results, Try.results27, go_sem, r0, r1, r2]) rfl ⟨by rw [HQ.out], ?_⟩
      exact ((b4.setCell (by simp) _).setCell (by simp) _).setCell (by simp) _
    · have hq : V = (.tuple #[.agg #[.int .i64 0, .int .i64 0, .string ⟨#[]⟩], .string ⟨#[110, 117, 109, 98, 101, 114, 32, 116, 111, 111, 32, 108, 97, 114, 103, 101]⟩]) := HV.out.trans (if_pos ⟨hk, hn⟩)
      have HQ := Lib.hid hq
      clear hq
      have qn := decide_eq_false hn
      have ek : (k == 3) = true := by simp [hk]
      clear hk hn
      go_wp2_with fail
      (with_reducible refine (isNumber_any n W4).mono ?_)
      rintro e w5 ⟨rfl, rfl⟩
      rw [qn]
      go_wp2_with fail
      refine bodyPost_ret (v := .tuple #[.agg #[.int .i64 0, .int .i64 0, .string ⟨#[]⟩], .string ⟨#[110, 117, 109, 98, 101, 114, 32, 116, 111, 111, 32, 108, 97, 114, 103, 101]⟩]) (by simp [results, Try.results27, go_sem, r0, r1, r2]) rfl ⟨by rw [HQ.out], ?_⟩
      exact ((b4.setCell (by simp) _).setCell (by simp) _).setCell (by simp) _
  · have hq : V = (.tuple #[.agg #[.int .i64 k, .int .i64 n, .string t], .string ⟨#[]⟩]) := HV.out.trans (if_neg fun h => hk h.1)
    have HQ := Lib.hid hq
    clear hq
    have ek : (k == 3) = false := by simp [hk]
    clear hk
    go_wp2_with fail
    refine bodyPost_ret (v := .tuple #[.agg #[.int .i64 k, .int .i64 n, .string t], .string ⟨#[]⟩]) (by simp [results, Try.results27, go_sem, r0, r1, r2]) rfl ⟨by rw [HQ.out], ?_⟩
    exact ((b4.setCell (by simp) _).setCell (by simp) _).setCell (by simp) _
set_option maxRecDepth 100000 in
set_option maxHeartbeats 4000000 in
theorem pure9_yes (k n : Int) (t : ByteArray) (A Q : Value) (w : World) (HR : Hid (∀ (h : Nat) (u : World), Below w.heap.size w u → h < u.heap.size → u.cell? ⟨h, 0, none⟩ = some (.func (.func 61) #[] #[]) → Calls Try.prog 68 #[A, Q, .pointer (some ⟨h, 0, none⟩)] u fun e w' => e = .returned (.tuple #[.agg #[.int .i64 k, .int .i64 n, .string t], .bool true]) ∧ Below u.heap.size u w')) :
    Calls Try.prog 27 #[.int .i64 9, A, Q] w fun e w' => e = .returned ((if k = 3 ∧ ¬ (-999999999 ≤ n ∧ n ≤ 999999999) then .tuple #[.agg #[.int .i64 0, .int .i64 0, .string ⟨#[]⟩], .string ⟨#[110, 117, 109, 98, 101, 114, 32, 116, 111, 111, 32, 108, 97, 114, 103, 101]⟩] else .tuple #[.agg #[.int .i64 k, .int .i64 n, .string t], .string ⟨#[]⟩])) ∧ Below w.heap.size w w' := by
  obtain ⟨W1, hW1⟩ : ∃ W1, W1 = w.alloc (.cells #[.int .i64 0, .int .i64 0, .string ⟨#[]⟩] 27) := ⟨_, rfl⟩
  have B1 : Below w.heap.size w W1 := by rw [hW1]; exact (Below.refl _ _).alloc (Nat.le_refl _) _
  have z1 : w.heap.size < W1.heap.size := by rw [hW1]; simp
  have R0 : D.Blk W1 w.heap.size 27 #[.int .i64 0, .int .i64 0, .string ⟨#[]⟩] := by rw [hW1]; exact D.Blk.new _ _ _
  obtain ⟨V, hV⟩ : ∃ V : Value, V = (if k = 3 ∧ ¬ (-999999999 ≤ n ∧ n ≤ 999999999) then .tuple #[.agg #[.int .i64 0, .int .i64 0, .string ⟨#[]⟩], .string ⟨#[110, 117, 109, 98, 101, 114, 32, 116, 111, 111, 32, 108, 97, 114, 103, 101]⟩] else .tuple #[.agg #[.int .i64 k, .int .i64 n, .string t], .string ⟨#[]⟩]) := ⟨_, rfl⟩
  rw [← hV]
  have HV := Lib.hid hV
  clear hV
  go_enter Try.func27, Try.ntmps27
  go_upto_region 1 with fail
  rw [← hW1]
  clear hW1
  go_wp2_with fail
  (with_reducible refine (primRules_any W1).mono ?_)
  rintro e w2 ⟨g, h0, h1, h2, h3, h4, h6, h7, h8, h9, h10, h12, rfl, HG, hg, u0, u1, u2, u3, u4, u6, u7, u8, u9, u10, u12, hb2⟩
  have c1 : w2.cell? ⟨g, 19, none⟩ = some (.func (.func 68) #[] #[.pointer (some ⟨h9, 0, none⟩)]) := HG.row.cell 19
  have cf := HG.c9
  clear HG
  have R2 := R0.below hb2 z1
  have z2 := hb2.size
  have b2 := B1.trans (hb2.mono (by omega))
  have HC : Hid (Calls Try.prog 68 #[A, Q, .pointer (some ⟨h9, 0, none⟩)] w2 fun e w' => e = .returned (.tuple #[.agg #[.int .i64 k, .int .i64 n, .string t], .bool true]) ∧ Below w2.heap.size w2 w') := HR.out h9 w2 b2 u9 cf
  clear u0 u1 u2 u3 u4 u6 u7 u8 u9 u10 u12 cf HR
  go_wp2_with fail
  (with_reducible refine HC.out.mono ?_)
  rintro e w3 ⟨rfl, hb3⟩
  clear HC c1
  have R3 := R2.below hb3 (by omega)
  have z3 := hb3.size
  have b3 := b2.trans (hb3.mono (by omega))
  go_upto_region 2 with fail
  obtain ⟨W4, hW4⟩ : ∃ W4, W4 = w3.alloc (.cells #[.int .i64 k, .int .i64 n, .string t] 27) := ⟨_, rfl⟩
  rw [← hW4]
  have h4 : Below w3.heap.size w3 W4 := by rw [hW4]; exact (Below.refl _ _).alloc (Nat.le_refl _) _
  have XV : D.Blk W4 w3.heap.size 27 #[.int .i64 k, .int .i64 n, .string t] := by rw [hW4]; exact D.Blk.new _ _ _
  have z4 := h4.size
  clear hW4
  have b4 := b3.trans (h4.mono (by omega))
  have R4 := R3.below h4 (by omega)
  have v0 : W4.cell? ⟨w3.heap.size, 0, none⟩ = some (.int .i64 k) := XV.cell 0
  have v1 : W4.cell? ⟨w3.heap.size, 1, none⟩ = some (.int .i64 n) := XV.cell 1
  have v2 : W4.cell? ⟨w3.heap.size, 2, none⟩ = some (.string t) := XV.cell 2
  have r0 : World.cell? W4 ⟨w.heap.size, 0, none⟩ = some (.int .i64 0) := R4.cell 0; have r1 : World.cell? W4 ⟨w.heap.size, 1, none⟩ = some (.int .i64 0) := R4.cell 1; have r2 : World.cell? W4 ⟨w.heap.size, 2, none⟩ = some (.string ⟨#[]⟩) := R4.cell 2; have g0 := R4.frozen 0; have g1 := R4.frozen 1; have g2 := R4.frozen 2
  clear XV R0 R2 R3 hb2 hb3
  by_cases hk : k = 3
  · by_cases hn : -999999999 ≤ n ∧ n ≤ 999999999
    · have hq : V = (.tuple #[.agg #[.int .i64 k, .int .i64 n, .string t], .string ⟨#[]⟩]) := HV.out.trans (if_neg fun h => h.2 hn)
      have HQ := Lib.hid hq
      clear hq
      have qn := decide_eq_true hn
      have ek : (k == 3) = true := by simp [hk]
      clear hk hn
      go_wp2_with fail
      (with_reducible refine (isNumber_any n W4).mono ?_)
      rintro e w5 ⟨rfl, rfl⟩
      rw [qn]
      go_wp2_with fail
      refine bodyPost_ret (v := .tuple #[.agg #[.int .i64 k, .int .i64 n, .string t], .string ⟨#[]⟩]) (by simp [results, Try.results27, go_sem, r0, r1, r2]) rfl ⟨by rw [HQ.out], ?_⟩
      exact ((b4.setCell (by simp) _).setCell (by simp) _).setCell (by simp) _
    · have hq : V = (.tuple #[.agg #[.int .i64 0, .int .i64 0, .string ⟨#[]⟩], .string ⟨#[110, 117, 109, 98, 101, 114, 32, 116, 111, 111, 32, 108, 97, 114, 103, 101]⟩]) := HV.out.trans (if_pos ⟨hk, hn⟩)
      have HQ := Lib.hid hq
      clear hq
      have qn := decide_eq_false hn
      have ek : (k == 3) = true := by simp [hk]
      clear hk hn
      go_wp2_with fail
      (with_reducible refine (isNumber_any n W4).mono ?_)
      rintro e w5 ⟨rfl, rfl⟩
      rw [qn]
      go_wp2_with fail
      refine bodyPost_ret (v := .tuple #[.agg #[.int .i64 0, .int .i64 0, .string ⟨#[]⟩], .string ⟨#[110, 117, 109, 98, 101, 114, 32, 116, 111, 111, 32, 108, 97, 114, 103, 101]⟩]) (by simp [results, Try.results27, go_sem, r0, r1, r2]) rfl ⟨by rw [HQ.out], ?_⟩
      exact ((b4.setCell (by simp) _).setCell (by simp) _).setCell (by simp) _
  · have hq : V = (.tuple #[.agg #[.int .i64 k, .int .i64 n, .string t], .string ⟨#[]⟩]) := HV.out.trans (if_neg fun h => hk h.1)
    have HQ := Lib.hid hq
    clear hq
    have ek : (k == 3) = false := by simp [hk]
    clear hk
    go_wp2_with fail
    refine bodyPost_ret (v := .tuple #[.agg #[.int .i64 k, .int .i64 n, .string t], .string ⟨#[]⟩]) (by simp [results, Try.results27, go_sem, r0, r1, r2]) rfl ⟨by rw [HQ.out], ?_⟩
    exact ((b4.setCell (by simp) _).setCell (by simp) _).setCell (by simp) _
set_option maxRecDepth 100000 in
set_option maxHeartbeats 4000000 in
theorem pure10_yes (k n : Int) (t : ByteArray) (A Q : Value) (w : World) (HR : Hid (∀ (h : Nat) (u : World), Below w.heap.size w u → h < u.heap.size → u.cell? ⟨h, 0, none⟩ = some (.func (.func 62) #[] #[]) → Calls Try.prog 68 #[A, Q, .pointer (some ⟨h, 0, none⟩)] u fun e w' => e = .returned (.tuple #[.agg #[.int .i64 k, .int .i64 n, .string t], .bool true]) ∧ Below u.heap.size u w')) :
    Calls Try.prog 27 #[.int .i64 10, A, Q] w fun e w' => e = .returned ((if k = 3 ∧ ¬ (-999999999 ≤ n ∧ n ≤ 999999999) then .tuple #[.agg #[.int .i64 0, .int .i64 0, .string ⟨#[]⟩], .string ⟨#[110, 117, 109, 98, 101, 114, 32, 116, 111, 111, 32, 108, 97, 114, 103, 101]⟩] else .tuple #[.agg #[.int .i64 k, .int .i64 n, .string t], .string ⟨#[]⟩])) ∧ Below w.heap.size w w' := by
  obtain ⟨W1, hW1⟩ : ∃ W1, W1 = w.alloc (.cells #[.int .i64 0, .int .i64 0, .string ⟨#[]⟩] 27) := ⟨_, rfl⟩
  have B1 : Below w.heap.size w W1 := by rw [hW1]; exact (Below.refl _ _).alloc (Nat.le_refl _) _
  have z1 : w.heap.size < W1.heap.size := by rw [hW1]; simp
  have R0 : D.Blk W1 w.heap.size 27 #[.int .i64 0, .int .i64 0, .string ⟨#[]⟩] := by rw [hW1]; exact D.Blk.new _ _ _
  obtain ⟨V, hV⟩ : ∃ V : Value, V = (if k = 3 ∧ ¬ (-999999999 ≤ n ∧ n ≤ 999999999) then .tuple #[.agg #[.int .i64 0, .int .i64 0, .string ⟨#[]⟩], .string ⟨#[110, 117, 109, 98, 101, 114, 32, 116, 111, 111, 32, 108, 97, 114, 103, 101]⟩] else .tuple #[.agg #[.int .i64 k, .int .i64 n, .string t], .string ⟨#[]⟩]) := ⟨_, rfl⟩
  rw [← hV]
  have HV := Lib.hid hV
  clear hV
  go_enter Try.func27, Try.ntmps27
  go_upto_region 1 with fail
  rw [← hW1]
  clear hW1
  go_wp2_with fail
  (with_reducible refine (primRules_any W1).mono ?_)
  rintro e w2 ⟨g, h0, h1, h2, h3, h4, h6, h7, h8, h9, h10, h12, rfl, HG, hg, u0, u1, u2, u3, u4, u6, u7, u8, u9, u10, u12, hb2⟩
  have c1 : w2.cell? ⟨g, 21, none⟩ = some (.func (.func 68) #[] #[.pointer (some ⟨h10, 0, none⟩)]) := HG.row.cell 21
  have cf := HG.c10
  clear HG
  have R2 := R0.below hb2 z1
  have z2 := hb2.size
  have b2 := B1.trans (hb2.mono (by omega))
  have HC : Hid (Calls Try.prog 68 #[A, Q, .pointer (some ⟨h10, 0, none⟩)] w2 fun e w' => e = .returned (.tuple #[.agg #[.int .i64 k, .int .i64 n, .string t], .bool true]) ∧ Below w2.heap.size w2 w') := HR.out h10 w2 b2 u10 cf
  clear u0 u1 u2 u3 u4 u6 u7 u8 u9 u10 u12 cf HR
  go_wp2_with fail
  (with_reducible refine HC.out.mono ?_)
  rintro e w3 ⟨rfl, hb3⟩
  clear HC c1
  have R3 := R2.below hb3 (by omega)
  have z3 := hb3.size
  have b3 := b2.trans (hb3.mono (by omega))
  go_upto_region 2 with fail
  obtain ⟨W4, hW4⟩ : ∃ W4, W4 = w3.alloc (.cells #[.int .i64 k, .int .i64 n, .string t] 27) := ⟨_, rfl⟩
  rw [← hW4]
  have h4 : Below w3.heap.size w3 W4 := by rw [hW4]; exact (Below.refl _ _).alloc (Nat.le_refl _) _
  have XV : D.Blk W4 w3.heap.size 27 #[.int .i64 k, .int .i64 n, .string t] := by rw [hW4]; exact D.Blk.new _ _ _
  have z4 := h4.size
  clear hW4
  have b4 := b3.trans (h4.mono (by omega))
  have R4 := R3.below h4 (by omega)
  have v0 : W4.cell? ⟨w3.heap.size, 0, none⟩ = some (.int .i64 k) := XV.cell 0
  have v1 : W4.cell? ⟨w3.heap.size, 1, none⟩ = some (.int .i64 n) := XV.cell 1
  have v2 : W4.cell? ⟨w3.heap.size, 2, none⟩ = some (.string t) := XV.cell 2
  have r0 : World.cell? W4 ⟨w.heap.size, 0, none⟩ = some (.int .i64 0) := R4.cell 0; have r1 : World.cell? W4 ⟨w.heap.size, 1, none⟩ = some (.int .i64 0) := R4.cell 1; have r2 : World.cell? W4 ⟨w.heap.size, 2, none⟩ = some (.string ⟨#[]⟩) := R4.cell 2; have g0 := R4.frozen 0; have g1 := R4.frozen 1; have g2 := R4.frozen 2
  clear XV R0 R2 R3 hb2 hb3
  by_cases hk : k = 3
  · by_cases hn : -999999999 ≤ n ∧ n ≤ 999999999
    · have hq : V = (.tuple #[.agg #[.int .i64 k, .int .i64 n, .string t], .string ⟨#[]⟩]) := HV.out.trans (if_neg fun h => h.2 hn)
      have HQ := Lib.hid hq
      clear hq
      have qn := decide_eq_true hn
      have ek : (k == 3) = true := by simp [hk]
      clear hk hn
      go_wp2_with fail
      (with_reducible refine (isNumber_any n W4).mono ?_)
      rintro e w5 ⟨rfl, rfl⟩
      rw [qn]
      go_wp2_with fail
      refine bodyPost_ret (v := .tuple #[.agg #[.int .i64 k, .int .i64 n, .string t], .string ⟨#[]⟩]) (by simp [results, Try.results27, go_sem, r0, r1, r2]) rfl ⟨by rw [HQ.out], ?_⟩
      exact ((b4.setCell (by simp) _).setCell (by simp) _).setCell (by simp) _
    · have hq : V = (.tuple #[.agg #[.int .i64 0, .int .i64 0, .string ⟨#[]⟩], .string ⟨#[110, 117, 109, 98, 101, 114, 32, 116, 111, 111, 32, 108, 97, 114, 103, 101]⟩]) := HV.out.trans (if_pos ⟨hk, hn⟩)
      have HQ := Lib.hid hq
      clear hq
      have qn := decide_eq_false hn
      have ek : (k == 3) = true := by simp [hk]
      clear hk hn
      go_wp2_with fail
      (with_reducible refine (isNumber_any n W4).mono ?_)
      rintro e w5 ⟨rfl, rfl⟩
      rw [qn]
      go_wp2_with fail
      refine bodyPost_ret (v := .tuple #[.agg #[.int .i64 0, .int .i64 0, .string ⟨#[]⟩], .string ⟨#[110, 117, 109, 98, 101, 114, 32, 116, 111, 111, 32, 108, 97, 114, 103, 101]⟩]) (by simp [results, Try.results27, go_sem, r0, r1, r2]) rfl ⟨by rw [HQ.out], ?_⟩
      exact ((b4.setCell (by simp) _).setCell (by simp) _).setCell (by simp) _
  · have hq : V = (.tuple #[.agg #[.int .i64 k, .int .i64 n, .string t], .string ⟨#[]⟩]) := HV.out.trans (if_neg fun h => hk h.1)
    have HQ := Lib.hid hq
    clear hq
    have ek : (k == 3) = false := by simp [hk]
    clear hk
    go_wp2_with fail
    refine bodyPost_ret (v := .tuple #[.agg #[.int .i64 k, .int .i64 n, .string t], .string ⟨#[]⟩]) (by simp [results, Try.results27, go_sem, r0, r1, r2]) rfl ⟨by rw [HQ.out], ?_⟩
    exact ((b4.setCell (by simp) _).setCell (by simp) _).setCell (by simp) _
set_option maxRecDepth 100000 in
set_option maxHeartbeats 4000000 in
theorem pure11_yes (k n : Int) (t : ByteArray) (A Q : Value) (w : World) (HR : Hid (∀ (u : World), Below w.heap.size w u → Calls Try.prog 63 #[A, Q] u fun e w' => e = .returned (.tuple #[.agg #[.int .i64 k, .int .i64 n, .string t], .bool true]) ∧ Below u.heap.size u w')) :
    Calls Try.prog 27 #[.int .i64 11, A, Q] w fun e w' => e = .returned ((if k = 3 ∧ ¬ (-999999999 ≤ n ∧ n ≤ 999999999) then .tuple #[.agg #[.int .i64 0, .int .i64 0, .string ⟨#[]⟩], .string ⟨#[110, 117, 109, 98, 101, 114, 32, 116, 111, 111, 32, 108, 97, 114, 103, 101]⟩] else .tuple #[.agg #[.int .i64 k, .int .i64 n, .string t], .string ⟨#[]⟩])) ∧ Below w.heap.size w w' := by
  obtain ⟨W1, hW1⟩ : ∃ W1, W1 = w.alloc (.cells #[.int .i64 0, .int .i64 0, .string ⟨#[]⟩] 27) := ⟨_, rfl⟩
  have B1 : Below w.heap.size w W1 := by rw [hW1]; exact (Below.refl _ _).alloc (Nat.le_refl _) _
  have z1 : w.heap.size < W1.heap.size := by rw [hW1]; simp
  have R0 : D.Blk W1 w.heap.size 27 #[.int .i64 0, .int .i64 0, .string ⟨#[]⟩] := by rw [hW1]; exact D.Blk.new _ _ _
  obtain ⟨V, hV⟩ : ∃ V : Value, V = (if k = 3 ∧ ¬ (-999999999 ≤ n ∧ n ≤ 999999999) then .tuple #[.agg #[.int .i64 0, .int .i64 0, .string ⟨#[]⟩], .string ⟨#[110, 117, 109, 98, 101, 114, 32, 116, 111, 111, 32, 108, 97, 114, 103, 101]⟩] else .tuple #[.agg #[.int .i64 k, .int .i64 n, .string t], .string ⟨#[]⟩]) := ⟨_, rfl⟩
  rw [← hV]
  have HV := Lib.hid hV
  clear hV
  go_enter Try.func27, Try.ntmps27
  go_upto_region 1 with fail
  rw [← hW1]
  clear hW1
  go_wp2_with fail
  (with_reducible refine (primRules_any W1).mono ?_)
  rintro e w2 ⟨g, h0, h1, h2, h3, h4, h6, h7, h8, h9, h10, h12, rfl, HG, hg, u0, u1, u2, u3, u4, u6, u7, u8, u9, u10, u12, hb2⟩
  have c1 : w2.cell? ⟨g, 23, none⟩ = some (.func (.func 63) #[] #[]) := HG.row.cell 23
  skip
  clear HG
  have R2 := R0.below hb2 z1
  have z2 := hb2.size
  have b2 := B1.trans (hb2.mono (by omega))
  have HC : Hid (Calls Try.prog 63 #[A, Q] w2 fun e w' => e = .returned (.tuple #[.agg #[.int .i64 k, .int .i64 n, .string t], .bool true]) ∧ Below w2.heap.size w2 w') := HR.out w2 b2
  clear u0 u1 u2 u3 u4 u6 u7 u8 u9 u10 u12  HR
  go_wp2_with fail
  (with_reducible refine HC.out.mono ?_)
  rintro e w3 ⟨rfl, hb3⟩
  clear HC c1
  have R3 := R2.below hb3 (by omega)
  have z3 := hb3.size
  have b3 := b2.trans (hb3.mono (by omega))
  go_upto_region 2 with fail
  obtain ⟨W4, hW4⟩ : ∃ W4, W4 = w3.alloc (.cells #[.int .i64 k, .int .i64 n, .string t] 27) := ⟨_, rfl⟩
  rw [← hW4]
  have h4 : Below w3.heap.size w3 W4 := by rw [hW4]; exact (Below.refl _ _).alloc (Nat.le_refl _) _
  have XV : D.Blk W4 w3.heap.size 27 #[.int .i64 k, .int .i64 n, .string t] := by rw [hW4]; exact D.Blk.new _ _ _
  have z4 := h4.size
  clear hW4
  have b4 := b3.trans (h4.mono (by omega))
  have R4 := R3.below h4 (by omega)
  have v0 : W4.cell? ⟨w3.heap.size, 0, none⟩ = some (.int .i64 k) := XV.cell 0
  have v1 : W4.cell? ⟨w3.heap.size, 1, none⟩ = some (.int .i64 n) := XV.cell 1
  have v2 : W4.cell? ⟨w3.heap.size, 2, none⟩ = some (.string t) := XV.cell 2
  have r0 : World.cell? W4 ⟨w.heap.size, 0, none⟩ = some (.int .i64 0) := R4.cell 0; have r1 : World.cell? W4 ⟨w.heap.size, 1, none⟩ = some (.int .i64 0) := R4.cell 1; have r2 : World.cell? W4 ⟨w.heap.size, 2, none⟩ = some (.string ⟨#[]⟩) := R4.cell 2; have g0 := R4.frozen 0; have g1 := R4.frozen 1; have g2 := R4.frozen 2
  clear XV R0 R2 R3 hb2 hb3
  by_cases hk : k = 3
  · by_cases hn : -999999999 ≤ n ∧ n ≤ 999999999
    · have hq : V = (.tuple #[.agg #[.int .i64 k, .int .i64 n, .string t], .string ⟨#[]⟩]) := HV.out.trans (if_neg fun h => h.2 hn)
      have HQ := Lib.hid hq
      clear hq
      have qn := decide_eq_true hn
      have ek : (k == 3) = true := by simp [hk]
      clear hk hn
      go_wp2_with fail
      (with_reducible refine (isNumber_any n W4).mono ?_)
      rintro e w5 ⟨rfl, rfl⟩
      rw [qn]
      go_wp2_with fail
      refine bodyPost_ret (v := .tuple #[.agg #[.int .i64 k, .int .i64 n, .string t], .string ⟨#[]⟩]) (by simp [results, Try.results27, go_sem, r0, r1, r2]) rfl ⟨by rw [HQ.out], ?_⟩
      exact ((b4.setCell (by simp) _).setCell (by simp) _).setCell (by simp) _
    · have hq : V = (.tuple #[.agg #[.int .i64 0, .int .i64 0, .string ⟨#[]⟩], .string ⟨#[110, 117, 109, 98, 101, 114, 32, 116, 111, 111, 32, 108, 97, 114, 103, 101]⟩]) := HV.out.trans (if_pos ⟨hk, hn⟩)
      have HQ := Lib.hid hq
      clear hq
      have qn := decide_eq_false hn
      have ek : (k == 3) = true := by simp [hk]
      clear hk hn
      go_wp2_with fail
      (with_reducible refine (isNumber_any n W4).mono ?_)
      rintro e w5 ⟨rfl, rfl⟩
      rw [qn]
      go_wp2_with fail
      refine bodyPost_ret (v := .tuple #[.agg #[.int .i64 0, .int .i64 0, .string ⟨#[]⟩], .string ⟨#[110, 117, 109, 98, 101, 114, 32, 116, 111, 111, 32, 108, 97, 114, 103, 101]⟩]) (by simp [results, Try.results27, go_sem, r0, r1, r2]) rfl ⟨by rw [HQ.out], ?_⟩
      exact ((b4.setCell (by simp) _).setCell (by simp) _).setCell (by simp) _
  · have hq : V = (.tuple #[.agg #[.int .i64 k, .int .i64 n, .string t], .string ⟨#[]⟩]) := HV.out.trans (if_neg fun h => hk h.1)
    have HQ := Lib.hid hq
    clear hq
    have ek : (k == 3) = false := by simp [hk]
    clear hk
    go_wp2_with fail
    refine bodyPost_ret (v := .tuple #[.agg #[.int .i64 k, .int .i64 n, .string t], .string ⟨#[]⟩]) (by simp [results, Try.results27, go_sem, r0, r1, r2]) rfl ⟨by rw [HQ.out], ?_⟩
    exact ((b4.setCell (by simp) _).setCell (by simp) _).setCell (by simp) _
set_option maxRecDepth 100000 in
set_option maxHeartbeats 4000000 in
theorem pure12_yes (k n : Int) (t : ByteArray) (A Q : Value) (w : World) (HR : Hid (∀ (h : Nat) (u : World), Below w.heap.size w u → h < u.heap.size → u.cell? ⟨h, 0, none⟩ = some (.func (.func 64) #[] #[]) → Calls Try.prog 68 #[A, Q, .pointer (some ⟨h, 0, none⟩)] u fun e w' => e = .returned (.tuple #[.agg #[.int .i64 k, .int .i64 n, .string t], .bool true]) ∧ Below u.heap.size u w')) :
    Calls Try.prog 27 #[.int .i64 12, A, Q] w fun e w' => e = .returned ((if k = 3 ∧ ¬ (-999999999 ≤ n ∧ n ≤ 999999999) then .tuple #[.agg #[.int .i64 0, .int .i64 0, .string ⟨#[]⟩], .string ⟨#[110, 117, 109, 98, 101, 114, 32, 116, 111, 111, 32, 108, 97, 114, 103, 101]⟩] else .tuple #[.agg #[.int .i64 k, .int .i64 n, .string t], .string ⟨#[]⟩])) ∧ Below w.heap.size w w' := by
  obtain ⟨W1, hW1⟩ : ∃ W1, W1 = w.alloc (.cells #[.int .i64 0, .int .i64 0, .string ⟨#[]⟩] 27) := ⟨_, rfl⟩
  have B1 : Below w.heap.size w W1 := by rw [hW1]; exact (Below.refl _ _).alloc (Nat.le_refl _) _
  have z1 : w.heap.size < W1.heap.size := by rw [hW1]; simp
  have R0 : D.Blk W1 w.heap.size 27 #[.int .i64 0, .int .i64 0, .string ⟨#[]⟩] := by rw [hW1]; exact D.Blk.new _ _ _
  obtain ⟨V, hV⟩ : ∃ V : Value, V = (if k = 3 ∧ ¬ (-999999999 ≤ n ∧ n ≤ 999999999) then .tuple #[.agg #[.int .i64 0, .int .i64 0, .string ⟨#[]⟩], .string ⟨#[110, 117, 109, 98, 101, 114, 32, 116, 111, 111, 32, 108, 97, 114, 103, 101]⟩] else .tuple #[.agg #[.int .i64 k, .int .i64 n, .string t], .string ⟨#[]⟩]) := ⟨_, rfl⟩
  rw [← hV]
  have HV := Lib.hid hV
  clear hV
  go_enter Try.func27, Try.ntmps27
  go_upto_region 1 with fail
  rw [← hW1]
  clear hW1
  go_wp2_with fail
  (with_reducible refine (primRules_any W1).mono ?_)
  rintro e w2 ⟨g, h0, h1, h2, h3, h4, h6, h7, h8, h9, h10, h12, rfl, HG, hg, u0, u1, u2, u3, u4, u6, u7, u8, u9, u10, u12, hb2⟩
  have c1 : w2.cell? ⟨g, 25, none⟩ = some (.func (.func 68) #[] #[.pointer (some ⟨h12, 0, none⟩)]) := HG.row.cell 25
  have cf := HG.c12
  clear HG
  have R2 := R0.below hb2 z1
  have z2 := hb2.size
  have b2 := B1.trans (hb2.mono (by omega))
  have HC : Hid (Calls Try.prog 68 #[A, Q, .pointer (some ⟨h12, 0, none⟩)] w2 fun e w' => e = .returned (.tuple #[.agg #[.int .i64 k, .int .i64 n, .string t], .bool true]) ∧ Below w2.heap.size w2 w') := HR.out h12 w2 b2 u12 cf
  clear u0 u1 u2 u3 u4 u6 u7 u8 u9 u10 u12 cf HR
  go_wp2_with fail
  (with_reducible refine HC.out.mono ?_)
  rintro e w3 ⟨rfl, hb3⟩
  clear HC c1
  have R3 := R2.below hb3 (by omega)
  have z3 := hb3.size
  have b3 := b2.trans (hb3.mono (by omega))
  go_upto_region 2 with fail
  obtain ⟨W4, hW4⟩ : ∃ W4, W4 = w3.alloc (.cells #[.int .i64 k, .int .i64 n, .string t] 27) := ⟨_, rfl⟩
  rw [← hW4]
  have h4 : Below w3.heap.size w3 W4 := by rw [hW4]; exact (Below.refl _ _).alloc (Nat.le_refl _) _
  have XV : D.Blk W4 w3.heap.size 27 #[.int .i64 k, .int .i64 n, .string t] := by rw [hW4]; exact D.Blk.new _ _ _
  have z4 := h4.size
  clear hW4
  have b4 := b3.trans (h4.mono (by omega))
  have R4 := R3.below h4 (by omega)
  have v0 : W4.cell? ⟨w3.heap.size, 0, none⟩ = some (.int .i64 k) := XV.cell 0
  have v1 : W4.cell? ⟨w3.heap.size, 1, none⟩ = some (.int .i64 n) := XV.cell 1
  have v2 : W4.cell? ⟨w3.heap.size, 2, none⟩ = some (.string t) := XV.cell 2
  have r0 : World.cell? W4 ⟨w.heap.size, 0, none⟩ = some (.int .i64 0) := R4.cell 0; have r1 : World.cell? W4 ⟨w.heap.size, 1, none⟩ = some (.int .i64 0) := R4.cell 1; have r2 : World.cell? W4 ⟨w.heap.size, 2, none⟩ = some (.string ⟨#[]⟩) := R4.cell 2; have g0 := R4.frozen 0; have g1 := R4.frozen 1; have g2 := R4.frozen 2
  clear XV R0 R2 R3 hb2 hb3
  by_cases hk : k = 3
  · by_cases hn : -999999999 ≤ n ∧ n ≤ 999999999
    · have hq : V = (.tuple #[.agg #[.int .i64 k, .int .i64 n, .string t], .string ⟨#[]⟩]) := HV.out.trans (if_neg fun h => h.2 hn)
      have HQ := Lib.hid hq
      clear hq
      have qn := decide_eq_true hn
      have ek : (k == 3) = true := by simp [hk]
      clear hk hn
      go_wp2_with fail
      (with_reducible refine (isNumber_any n W4).mono ?_)
      rintro e w5 ⟨rfl, rfl⟩
      rw [qn]
      go_wp2_with fail
      refine bodyPost_ret (v := .tuple #[.agg #[.int .i64 k, .int .i64 n, .string t], .string ⟨#[]⟩]) (by simp [results, Try.results27, go_sem, r0, r1, r2]) rfl ⟨by rw [HQ.out], ?_⟩
      exact ((b4.setCell (by simp) _).setCell (by simp) _).setCell (by simp) _
    · have hq : V = (.tuple #[.agg #[.int .i64 0, .int .i64 0, .string ⟨#[]⟩], .string ⟨#[110, 117, 109, 98, 101, 114, 32, 116, 111, 111, 32, 108, 97, 114, 103, 101]⟩]) := HV.out.trans (if_pos ⟨hk, hn⟩)
      have HQ := Lib.hid hq
      clear hq
      have qn := decide_eq_false hn
      have ek : (k == 3) = true := by simp [hk]
      clear hk hn
      go_wp2_with fail
      (with_reducible refine (isNumber_any n W4).mono ?_)
      rintro e w5 ⟨rfl, rfl⟩
      rw [qn]
      go_wp2_with fail
      refine bodyPost_ret (v := .tuple #[.agg #[.int .i64 0, .int .i64 0, .string ⟨#[]⟩], .string ⟨#[110, 117, 109, 98, 101, 114, 32, 116, 111, 111, 32, 108, 97, 114, 103, 101]⟩]) (by simp [results, Try.results27, go_sem, r0, r1, r2]) rfl ⟨by rw [HQ.out], ?_⟩
      exact ((b4.setCell (by simp) _).setCell (by simp) _).setCell (by simp) _
  · have hq : V = (.tuple #[.agg #[.int .i64 k, .int .i64 n, .string t], .string ⟨#[]⟩]) := HV.out.trans (if_neg fun h => hk h.1)
    have HQ := Lib.hid hq
    clear hq
    have ek : (k == 3) = false := by simp [hk]
    clear hk
    go_wp2_with fail
    refine bodyPost_ret (v := .tuple #[.agg #[.int .i64 k, .int .i64 n, .string t], .string ⟨#[]⟩]) (by simp [results, Try.results27, go_sem, r0, r1, r2]) rfl ⟨by rw [HQ.out], ?_⟩
    exact ((b4.setCell (by simp) _).setCell (by simp) _).setCell (by simp) _
end Go.Proofs.Ytnldlbglgalbaab
