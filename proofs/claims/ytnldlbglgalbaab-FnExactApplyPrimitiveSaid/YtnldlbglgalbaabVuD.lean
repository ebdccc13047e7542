/-
  Values, the program's: atom, countNumbers, isAmong (written by gen/valp.py).
-/
import Derived.Test.YtnldlbglgalbaabVuC
import Derived.Test.YtnldlbglgalbaabNear
import Derived.Test.YtnldlbglgalbaabIsD
import Derived.Test.YtnldlbglgalbaabShelf
namespace Go.Proofs.Ytnldlbglgalbaab
open Go.RowKit

theorem below_undrew_or {w w' : World} (h : Below w.drew.heap.size w.drew w' ∨ Below w.heap.size w w') : Below w.heap.size w w' := h.elim below_undrew id
theorem Vu.kd_idx (k : Int) : Lib.idxOf (([1, 4, 3, 2, 5] : List Int).take 5) k = Vu.kd k := by
  show Lib.idxFrom [1, 4, 3, 2, 5] k 0 = _
  unfold Vu.kd
  by_cases h1 : k = 1
  · subst h1; rfl
  by_cases h2 : k = 4
  · subst h2; rfl
  by_cases h3 : k = 3
  · subst h3; rfl
  by_cases h4 : k = 2
  · subst h4; rfl
  by_cases h5 : k = 5
  · subst h5; rfl
  rw [if_neg h1, if_neg h2, if_neg h3, if_neg h4, if_neg h5]
  simp only [Lib.idxFrom]
  simp [Ne.symm h1, Ne.symm h2, Ne.symm h3, Ne.symm h4, Ne.symm h5]
theorem Vu.kd_le (k : Int) : Vu.kd k ≤ 4 ∧ -1 ≤ Vu.kd k := by
  unfold Vu.kd
  repeat' (first | split | omega)
set_option maxRecDepth 100000 in
set_option maxHeartbeats 1000000 in
theorem valueKinds_any (w : World) : Calls Try.prog 46 #[] w fun e w' => ∃ g : Nat, e = .returned (.slice (some ⟨g, 0, none⟩) 5 5) ∧ Hid (∀ j, j < ([1, 4, 3, 2, 5] : List Int).length → w'.cell? ⟨g, 0 + j, none⟩ = some (.int .i64 (([1, 4, 3, 2, 5] : List Int).getD j 0))) ∧ Below w.heap.size w w' := by
  go_enter Try.func46, Try.ntmps46
  go_wp2_with fail
  go_ret
  refine ⟨_, rfl, ?_, (Below.refl _ _).alloc (Nat.le_refl _) _⟩
  intro j hj
  have h := D.Blk.new w 3 #[.int .i64 1, .int .i64 4, .int .i64 3, .int .i64 2, .int .i64 5]
  have hj' : j < 5 := hj
  have hc : j = 0 ∨ j = 1 ∨ j = 2 ∨ j = 3 ∨ j = 4 := by omega
  rcases hc with rfl | rfl | rfl | rfl | rfl
  · exact h.cell 0
  · exact h.cell 1
  · exact h.cell 2
  · exact h.cell 3
  · exact h.cell 4

set_option maxRecDepth 100000 in
set_option maxHeartbeats 4000000 in
theorem atom_yes (k n : Int) (t : ByteArray) (w : World) (h : 0 ≤ Vu.kd k) : Calls Try.prog 36 #[.agg #[.int .i64 k, .int .i64 n, .string t]] w fun e w' => e = .returned (.tuple #[.agg #[.int .i64 (Vu.kd k), .int .i64 n, .string t, .slice none 0 0], .bool true]) ∧ Below w.heap.size w w' := by
  obtain ⟨W1, hW1⟩ : ∃ W1, W1 = (w.alloc (.cells #[.int .i64 k, .int .i64 n, .string t] 27)).alloc (.cells #[.int .i64 0, .int .i64 0, .string ⟨#[]⟩, .slice none 0 0] 63) := ⟨_, rfl⟩
  have b1 : Below w.heap.size w W1 := by rw [hW1]; exact ((Below.refl _ _).alloc (Nat.le_refl _) _).alloc (by simp) _
  have z1 : w.heap.size + 2 ≤ W1.heap.size := by rw [hW1]; simp
  have X1 : Vu.Box W1 w.heap.size ⟨k, n, t⟩ := by rw [hW1]; exact (Vu.Box.new w ⟨k, n, t⟩ _).below ((Below.refl (w.heap.size + 1) _).alloc (by simp) _) (by omega)
  have R1 : D.Blk W1 (w.heap.size + 1) 63 #[.int .i64 0, .int .i64 0, .string ⟨#[]⟩, .slice none 0 0] := by rw [hW1]; have := D.Blk.new (w.alloc (.cells #[.int .i64 k, .int .i64 n, .string t] 27)) 63 #[.int .i64 0, .int .i64 0, .string ⟨#[]⟩, .slice none 0 0]; simpa using this
  have HK := Lib.hid (Vu.kd_idx k)
  have hle := Vu.kd_le k
  obtain ⟨q, hq⟩ : ∃ q, q = Vu.kd k := ⟨_, rfl⟩
  rw [← hq] at h hle HK ⊢
  clear hq
  have XA := Lib.hid X1
  have RA := Lib.hid R1
  obtain ⟨a0, a1, a2⟩ := X1
  simp only at a0 a1 a2
  go_enter Try.func36, Try.ntmps36
  go_upto_region 1 with fail
  rw [← hW1]
  clear hW1 R1
  first | go_region_law (first | (go_simp; go_at_call 46; (with_reducible refine (valueKinds_any _).mono ?_); rintro e w2 ⟨g, rfl, HG, hb2⟩; have hc := b1.trans (Below.mono (below_undrew_or (by first | exact .inl hb2 | exact .inr hb2)) (by omega)); have hzc := (below_undrew_or (by first | exact .inl hb2 | exact .inr hb2)).size; have XC := XA.out.below (below_undrew_or (by first | exact .inl hb2 | exact .inr hb2)) (by omega); have RC := RA.out.below (below_undrew_or (by first | exact .inl hb2 | exact .inr hb2)) (by omega); have a0 := XC.c0; have a1 := XC.c1; have a2 := XC.c2) | (go_simp; go_at_call 45; have hix := Try.slices_Index_int g 0 5 5 [1, 4, 3, 2, 5] k w2 (by decide) (by decide) HG.out; rw [HK.out] at hix; refine hix.mono ?_; clear hix; rintro e w3 ⟨rfl, rfl⟩)) | fail
  all_goals (have hge : ¬ q < 0 := by omega)
  all_goals clear h hle HG hb2 XA RA HK
  all_goals (have r0 : World.cell? w3 ⟨w.heap.size + 1, 0, none⟩ = some (.int .i64 0) := RC.cell 0)
  all_goals (have g0 := RC.frozen 0)
  all_goals (have r1 : World.cell? w3 ⟨w.heap.size + 1, 1, none⟩ = some (.int .i64 0) := RC.cell 1)
  all_goals (have g1 := RC.frozen 1)
  all_goals (have r2 : World.cell? w3 ⟨w.heap.size + 1, 2, none⟩ = some (.string ⟨#[]⟩) := RC.cell 2)
  all_goals (have g2 := RC.frozen 2)
  all_goals (have r3 : World.cell? w3 ⟨w.heap.size + 1, 3, none⟩ = some (.slice none 0 0) := RC.cell 3)
  all_goals (have g3 := RC.frozen 3)
  all_goals clear XC RC
  all_goals go_wp2_with fail
  all_goals refine bodyPost_ret (v := .tuple #[.agg #[.int .i64 q, .int .i64 n, .string t, .slice none 0 0], .bool true]) (by simp [results, Try.results36, go_sem, r0, r1, r2, r3]) rfl ⟨rfl, ?_⟩
  all_goals exact ((((hc.setCell (by simp <;> omega) _).setCell (by simp <;> omega) _).setCell (by simp <;> omega) _).setCell (by simp <;> omega) _)

set_option maxRecDepth 100000 in
set_option maxHeartbeats 4000000 in
theorem atom_no (k n : Int) (t : ByteArray) (w : World) (h : ¬ 0 ≤ Vu.kd k) : Calls Try.prog 36 #[.agg #[.int .i64 k, .int .i64 n, .string t]] w fun e w' => e = .returned (.tuple #[.agg #[.int .i64 0, .int .i64 0, .string ⟨#[]⟩, .slice none 0 0], .bool false]) ∧ Below w.heap.size w w' := by
  obtain ⟨W1, hW1⟩ : ∃ W1, W1 = (w.alloc (.cells #[.int .i64 k, .int .i64 n, .string t] 27)).alloc (.cells #[.int .i64 0, .int .i64 0, .string ⟨#[]⟩, .slice none 0 0] 63) := ⟨_, rfl⟩
  have b1 : Below w.heap.size w W1 := by rw [hW1]; exact ((Below.refl _ _).alloc (Nat.le_refl _) _).alloc (by simp) _
  have z1 : w.heap.size + 2 ≤ W1.heap.size := by rw [hW1]; simp
  have X1 : Vu.Box W1 w.heap.size ⟨k, n, t⟩ := by rw [hW1]; exact (Vu.Box.new w ⟨k, n, t⟩ _).below ((Below.refl (w.heap.size + 1) _).alloc (by simp) _) (by omega)
  have R1 : D.Blk W1 (w.heap.size + 1) 63 #[.int .i64 0, .int .i64 0, .string ⟨#[]⟩, .slice none 0 0] := by rw [hW1]; have := D.Blk.new (w.alloc (.cells #[.int .i64 k, .int .i64 n, .string t] 27)) 63 #[.int .i64 0, .int .i64 0, .string ⟨#[]⟩, .slice none 0 0]; simpa using this
  have HK := Lib.hid (Vu.kd_idx k)
  have hle := Vu.kd_le k
  obtain ⟨q, hq⟩ : ∃ q, q = Vu.kd k := ⟨_, rfl⟩
  rw [← hq] at h hle HK
  clear hq
  have XA := Lib.hid X1
  have RA := Lib.hid R1
  obtain ⟨a0, a1, a2⟩ := X1
  simp only at a0 a1 a2
  go_enter Try.func36, Try.ntmps36
  go_upto_region 1 with fail
  rw [← hW1]
  clear hW1 R1
  first | go_region_law (first | (go_simp; go_at_call 46; (with_reducible refine (valueKinds_any _).mono ?_); rintro e w2 ⟨g, rfl, HG, hb2⟩; have hc := b1.trans (Below.mono (below_undrew_or (by first | exact .inl hb2 | exact .inr hb2)) (by omega)); have hzc := (below_undrew_or (by first | exact .inl hb2 | exact .inr hb2)).size; have XC := XA.out.below (below_undrew_or (by first | exact .inl hb2 | exact .inr hb2)) (by omega); have RC := RA.out.below (below_undrew_or (by first | exact .inl hb2 | exact .inr hb2)) (by omega); have a0 := XC.c0; have a1 := XC.c1; have a2 := XC.c2) | (go_simp; go_at_call 45; have hix := Try.slices_Index_int g 0 5 5 [1, 4, 3, 2, 5] k w2 (by decide) (by decide) HG.out; rw [HK.out] at hix; refine hix.mono ?_; clear hix; rintro e w3 ⟨rfl, rfl⟩)) | fail
  all_goals (have hge : q < 0 := by omega)
  all_goals clear h hle HG hb2 XA RA HK
  all_goals (have r0 : World.cell? w3 ⟨w.heap.size + 1, 0, none⟩ = some (.int .i64 0) := RC.cell 0)
  all_goals (have g0 := RC.frozen 0)
  all_goals (have r1 : World.cell? w3 ⟨w.heap.size + 1, 1, none⟩ = some (.int .i64 0) := RC.cell 1)
  all_goals (have g1 := RC.frozen 1)
  all_goals (have r2 : World.cell? w3 ⟨w.heap.size + 1, 2, none⟩ = some (.string ⟨#[]⟩) := RC.cell 2)
  all_goals (have g2 := RC.frozen 2)
  all_goals (have r3 : World.cell? w3 ⟨w.heap.size + 1, 3, none⟩ = some (.slice none 0 0) := RC.cell 3)
  all_goals (have g3 := RC.frozen 3)
  all_goals clear XC RC
  all_goals go_wp2_with fail
  all_goals refine bodyPost_ret (v := .tuple #[.agg #[.int .i64 0, .int .i64 0, .string ⟨#[]⟩, .slice none 0 0], .bool false]) (by simp [results, Try.results36, go_sem, r0, r1, r2, r3]) rfl ⟨rfl, ?_⟩
  all_goals exact ((((hc.setCell (by simp <;> omega) _).setCell (by simp <;> omega) _).setCell (by simp <;> omega) _).setCell (by simp <;> omega) _)

set_option maxRecDepth 100000 in
theorem cnt0_any (p : Int) (w : World) : Calls Try.prog 38 #[.int .i64 0, .int .i64 p] w fun e w' => e = .returned (.int .i64 (1)) ∧ Below w.heap.size w w' := by
  go_enter Try.func38, Try.ntmps38
  go_wp2_with fail
  go_ret
  exact ⟨rfl, Below.refl _ _⟩

set_option maxRecDepth 100000 in
theorem cnt7_any (p : Int) (w : World) : Calls Try.prog 38 #[.int .i64 7, .int .i64 p] w fun e w' => e = .returned (.int .i64 (p)) ∧ Below w.heap.size w w' := by
  go_enter Try.func38, Try.ntmps38
  go_wp2_with fail
  go_ret
  exact ⟨rfl, Below.refl _ _⟩

set_option maxRecDepth 100000 in
theorem cnt8_any (p : Int) (w : World) : Calls Try.prog 38 #[.int .i64 8, .int .i64 p] w fun e w' => e = .returned (.int .i64 (2001)) ∧ Below w.heap.size w w' := by
  go_enter Try.func38, Try.ntmps38
  go_wp2_with fail
  go_ret
  exact ⟨rfl, Below.refl _ _⟩

set_option maxRecDepth 100000 in
theorem cnt9_any (p : Int) (w : World) : Calls Try.prog 38 #[.int .i64 9, .int .i64 p] w fun e w' => e = .returned (.int .i64 (2001)) ∧ Below w.heap.size w w' := by
  go_enter Try.func38, Try.ntmps38
  go_wp2_with fail
  go_ret
  exact ⟨rfl, Below.refl _ _⟩

set_option maxRecDepth 100000 in
theorem cnt6_any (p : Int) (w : World) : Calls Try.prog 38 #[.int .i64 6, .int .i64 p] w fun e w' => e = .returned (.int .i64 14) ∧ Below w.heap.size w w' := by
  go_enter Try.func38, Try.ntmps38
  go_wp2_with fail
  (with_reducible refine (iprimN_v _).mono ?_)
  rintro e w1 ⟨A1, c1, rfl, hb1⟩
  go_wp2_with fail
  go_ret
  exact ⟨rfl, hb1⟩
set_option maxRecDepth 100000 in
theorem cntx_any (k p : Int) (w : World) (h : ¬ (k = 0 ∨ k = 6 ∨ k = 7 ∨ k = 8 ∨ k = 9)) : Calls Try.prog 38 #[.int .i64 k, .int .i64 p] w fun e w' => e = .returned (.int .i64 0) ∧ Below w.heap.size w w' := by
  have n0 : (k == 0) = false := by simp; omega
  have n6 : (k == 6) = false := by simp; omega
  have n7 : (k == 7) = false := by simp; omega
  have n8 : (k == 8) = false := by simp; omega
  have n9 : (k == 9) = false := by simp; omega
  clear h
  go_enter Try.func38, Try.ntmps38
  go_wp2_with fail
  go_ret
  exact ⟨rfl, Below.refl _ _⟩
theorem cntN_any (k p : Int) (w : World) : Calls Try.prog 38 #[.int .i64 k, .int .i64 p] w fun e w' => e = .returned (.int .i64 (Vu.cnt k p)) ∧ Below w.heap.size w w' := by
  by_cases h : k = 0 ∨ k = 6 ∨ k = 7 ∨ k = 8 ∨ k = 9
  · rcases h with rfl | rfl | rfl | rfl | rfl
    · exact cnt0_any p w
    · exact cnt6_any p w
    · exact cnt7_any p w
    · exact cnt8_any p w
    · exact cnt9_any p w
  · have e : Vu.cnt k p = 0 := by unfold Vu.cnt; rw [if_neg (by omega), if_neg (by omega), if_neg (by omega), if_neg (by omega)]
    rw [e]
    exact cntx_any k p w h
theorem D.isD_atom (k n : Int) (t : ByteArray) : D.isD (.mk k n t none 0 []) = nodeOk k n t 0 := by
  simp [D.isD, D.size, D.sizeL, D.depth, D.depthL, D.valid, D.validL]

set_option maxRecDepth 100000 in
set_option maxHeartbeats 4000000 in
theorem among_atom (k n : Int) (t : ByteArray) (p : Int) (w : World) (ht : t.size ≤ 9223372036854775807) (h : 0 ≤ Vu.kd k) : Calls Try.prog 22 #[.agg #[.int .i64 k, .int .i64 n, .string t], .int .i64 p] w fun e w' => e = .returned (.bool (Vu.okv k n t p)) ∧ Below w.heap.size w w' := by
  have HQ : Hid (Vu.okv k n t p = nodeOk (Vu.kd k) n t 0) := if_pos h
  obtain ⟨W1, hW1⟩ : ∃ W1, W1 = w.alloc (.cells #[.int .i64 k, .int .i64 n, .string t] 27) := ⟨_, rfl⟩
  have b1 : Below w.heap.size w W1 := by rw [hW1]; exact (Below.refl _ _).alloc (Nat.le_refl _) _
  have z1 : w.heap.size < W1.heap.size := by rw [hW1]; simp
  have X1 : Vu.Box W1 w.heap.size ⟨k, n, t⟩ := by rw [hW1]; exact Vu.Box.new w ⟨k, n, t⟩ _
  obtain ⟨a0, a1, a2⟩ := X1
  simp only at a0 a1 a2
  go_enter Try.func22, Try.ntmps22
  go_upto_region 1 with fail
  rw [← hW1]
  clear hW1
  go_wp2_with fail
  refine (atom_yes k n t W1 h).mono ?_
  rintro e w2 ⟨rfl, hb2⟩
  have z2 := hb2.size
  generalize Vu.kd k = q at *
  obtain ⟨W3, hW3⟩ : ∃ W3, W3 = w2.alloc (.cells #[.int .i64 q, .int .i64 n, .string t, .slice none 0 0] 63) := ⟨_, rfl⟩
  have b3 : Below w2.heap.size w2 W3 := by rw [hW3]; exact (Below.refl _ _).alloc (Nat.le_refl _) _
  have z3 : w2.heap.size < W3.heap.size := by rw [hW3]; simp
  have X3 : D.Blk W3 w2.heap.size 63 #[.int .i64 q, .int .i64 n, .string t, .slice none 0 0] := by rw [hW3]; exact D.Blk.new _ _ _
  have d0 := X3.cell 0
  have d1 := X3.cell 1
  have d2 := X3.cell 2
  have d3 := X3.cell 3
  go_upto_region 3 with fail
  rw [← hW3]
  clear hW3 X3
  go_wp2_with fail
  have hc := implIsD_any (.mk q n t none 0 []) W3.heap.size W3 (by unfold D.In; exact ⟨⟨by simp, by decide, ht⟩, fun h => absurd rfl h, trivial⟩) (Nat.le_refl _)
  rw [D.isD_atom, ← HQ.out] at hc
  refine hc.mono ?_
  rintro e w4 ⟨rfl, hb4⟩
  go_wp2_with fail
  go_ret
  exact ⟨rfl, b1.trans ((hb2.trans ((b3.trans (hb4.mono (by omega))).mono (by omega))).mono (by omega))⟩

set_option maxRecDepth 100000 in
set_option maxHeartbeats 4000000 in
theorem among_other (k n : Int) (t : ByteArray) (p : Int) (w : World) (h : ¬ 0 ≤ Vu.kd k) : Calls Try.prog 22 #[.agg #[.int .i64 k, .int .i64 n, .string t], .int .i64 p] w fun e w' => e = .returned (.bool (Vu.okv k n t p)) ∧ Below w.heap.size w w' := by
  have K : Hid (Vu.okv k n t p = (decide (0 ≤ n ∧ n < Vu.cnt k p) && t.toList.isEmpty)) := if_neg h
  obtain ⟨C, hC⟩ : ∃ C, C = Vu.cnt k p := ⟨_, rfl⟩
  have hcn : ∀ w, Calls Try.prog 38 #[.int .i64 k, .int .i64 p] w fun e w' => e = .returned (.int .i64 C) ∧ Below w.heap.size w w' := fun w => by rw [hC]; exact cntN_any k p w
  rw [← hC] at K
  clear hC
  have HA := Lib.hid (fun w => atom_no k n t w h)
  clear h
  obtain ⟨W1, hW1⟩ : ∃ W1, W1 = w.alloc (.cells #[.int .i64 k, .int .i64 n, .string t] 27) := ⟨_, rfl⟩
  have b1 : Below w.heap.size w W1 := by rw [hW1]; exact (Below.refl _ _).alloc (Nat.le_refl _) _
  have z1 : w.heap.size < W1.heap.size := by rw [hW1]; simp
  have X1 : Vu.Box W1 w.heap.size ⟨k, n, t⟩ := by rw [hW1]; exact Vu.Box.new w ⟨k, n, t⟩ _
  have XA := Lib.hid X1
  obtain ⟨a0, a1, a2⟩ := X1
  simp only at a0 a1 a2
  by_cases g1 : 0 ≤ n
  · by_cases g2 : n < C
    · cases he : t.toList.isEmpty
      · have HQ : Hid (Vu.okv k n t p = false) := by show _ = _; rw [K.out]; rw [decide_eq_true ⟨g1, g2⟩, he]; rfl
        have he2 : (t.toList == []) = false := by rw [isEmpty_beq]; exact he
        clear he K
        go_enter Try.func22, Try.ntmps22
        go_upto_region 1 with fail
        rw [← hW1]
        clear hW1
        go_wp2_with fail
        refine (HA.out W1).mono ?_
        rintro e w2 ⟨rfl, hb2⟩
        have z2 := hb2.size
        clear a0 a1 a2
        obtain ⟨W3, hW3⟩ : ∃ W3, W3 = w2.alloc (.cells #[.int .i64 0, .int .i64 0, .string ⟨#[]⟩, .slice none 0 0] 63) := ⟨_, rfl⟩
        have b3 : Below w2.heap.size w2 W3 := by rw [hW3]; exact (Below.refl _ _).alloc (Nat.le_refl _) _
        have z3 : w2.heap.size < W3.heap.size := by rw [hW3]; simp
        have X3 := (XA.out.below hb2 (by omega)).below b3 (by omega)
        have lw : w.heap.size < W3.heap.size := by omega
        have a0 : ∀ x : Near W3, x.at_.cell? ⟨w.heap.size, 0, none⟩ = some (.int .i64 k) := fun x => x.cell 0 X3.c0 lw
        have a1 : ∀ x : Near W3, x.at_.cell? ⟨w.heap.size, 1, none⟩ = some (.int .i64 n) := fun x => x.cell 1 X3.c1 lw
        have a2 : ∀ x : Near W3, x.at_.cell? ⟨w.heap.size, 2, none⟩ = some (.string t) := fun x => x.cell 2 X3.c2 lw
        have bw : Below w.heap.size w W3 := b1.trans ((hb2.trans (b3.mono (by omega))).mono (by omega))
        clear X3 XA
        go_upto_region 4 with fail
        rw [← hW3]
        clear hW3
        refine wp_region_near (by kernel_rfl) (by kernel_rfl) ?_
        repeat (go_big_quiet_step ((go_at_call 38; with_reducible exact Calls.near (hcn _))))
        refine wpQuiet_nil ?_
        intro _ hw1
        obtain ⟨nx, hw2⟩ := hw1
        subst hw2
        go_wp2_with fail
        go_ret
        exact ⟨ret_bool HQ.out.symm, bw.trans (nx.below.mono (by omega))⟩
      · have HQ : Hid (Vu.okv k n t p = true) := by show _ = _; rw [K.out]; rw [decide_eq_true ⟨g1, g2⟩, he]; rfl
        have he2 : (t.toList == []) = true := by rw [isEmpty_beq]; exact he
        clear he K
        go_enter Try.func22, Try.ntmps22
        go_upto_region 1 with fail
        rw [← hW1]
        clear hW1
        go_wp2_with fail
        refine (HA.out W1).mono ?_
        rintro e w2 ⟨rfl, hb2⟩
        have z2 := hb2.size
        clear a0 a1 a2
        obtain ⟨W3, hW3⟩ : ∃ W3, W3 = w2.alloc (.cells #[.int .i64 0, .int .i64 0, .string ⟨#[]⟩, .slice none 0 0] 63) := ⟨_, rfl⟩
        have b3 : Below w2.heap.size w2 W3 := by rw [hW3]; exact (Below.refl _ _).alloc (Nat.le_refl _) _
        have z3 : w2.heap.size < W3.heap.size := by rw [hW3]; simp
        have X3 := (XA.out.below hb2 (by omega)).below b3 (by omega)
        have lw : w.heap.size < W3.heap.size := by omega
        have a0 : ∀ x : Near W3, x.at_.cell? ⟨w.heap.size, 0, none⟩ = some (.int .i64 k) := fun x => x.cell 0 X3.c0 lw
        have a1 : ∀ x : Near W3, x.at_.cell? ⟨w.heap.size, 1, none⟩ = some (.int .i64 n) := fun x => x.cell 1 X3.c1 lw
        have a2 : ∀ x : Near W3, x.at_.cell? ⟨w.heap.size, 2, none⟩ = some (.string t) := fun x => x.cell 2 X3.c2 lw
        have bw : Below w.heap.size w W3 := b1.trans ((hb2.trans (b3.mono (by omega))).mono (by omega))
        clear X3 XA
        go_upto_region 4 with fail
        rw [← hW3]
        clear hW3
        refine wp_region_near (by kernel_rfl) (by kernel_rfl) ?_
        repeat (go_big_quiet_step ((go_at_call 38; with_reducible exact Calls.near (hcn _))))
        refine wpQuiet_nil ?_
        intro _ hw1
        obtain ⟨nx, hw2⟩ := hw1
        subst hw2
        go_wp2_with fail
        go_ret
        exact ⟨ret_bool HQ.out.symm, bw.trans (nx.below.mono (by omega))⟩
    · have HQ : Hid (Vu.okv k n t p = false) := by show _ = _; rw [K.out]; rw [decide_eq_false (by omega)]; rfl
      have g3 : decide (n < C) = false := decide_eq_false g2
      clear K
      go_enter Try.func22, Try.ntmps22
      go_upto_region 1 with fail
      rw [← hW1]
      clear hW1
      go_wp2_with fail
      refine (HA.out W1).mono ?_
      rintro e w2 ⟨rfl, hb2⟩
      have z2 := hb2.size
      clear a0 a1 a2
      obtain ⟨W3, hW3⟩ : ∃ W3, W3 = w2.alloc (.cells #[.int .i64 0, .int .i64 0, .string ⟨#[]⟩, .slice none 0 0] 63) := ⟨_, rfl⟩
      have b3 : Below w2.heap.size w2 W3 := by rw [hW3]; exact (Below.refl _ _).alloc (Nat.le_refl _) _
      have z3 : w2.heap.size < W3.heap.size := by rw [hW3]; simp
      have X3 := (XA.out.below hb2 (by omega)).below b3 (by omega)
      have lw : w.heap.size < W3.heap.size := by omega
      have a0 : ∀ x : Near W3, x.at_.cell? ⟨w.heap.size, 0, none⟩ = some (.int .i64 k) := fun x => x.cell 0 X3.c0 lw
      have a1 : ∀ x : Near W3, x.at_.cell? ⟨w.heap.size, 1, none⟩ = some (.int .i64 n) := fun x => x.cell 1 X3.c1 lw
      have a2 : ∀ x : Near W3, x.at_.cell? ⟨w.heap.size, 2, none⟩ = some (.string t) := fun x => x.cell 2 X3.c2 lw
      have bw : Below w.heap.size w W3 := b1.trans ((hb2.trans (b3.mono (by omega))).mono (by omega))
      clear X3 XA
      go_upto_region 4 with fail
      rw [← hW3]
      clear hW3
      refine wp_region_near (by kernel_rfl) (by kernel_rfl) ?_
      repeat (go_big_quiet_step ((go_at_call 38; with_reducible exact Calls.near (hcn _))))
      refine wpQuiet_nil ?_
      intro _ hw1
      obtain ⟨nx, hw2⟩ := hw1
      subst hw2
      go_wp2_with fail
      go_ret
      exact ⟨ret_bool HQ.out.symm, bw.trans (nx.below.mono (by omega))⟩
  · have HQ : Hid (Vu.okv k n t p = false) := by show _ = _; rw [K.out]; rw [decide_eq_false (by omega)]; rfl
    have g3 : decide (0 ≤ n) = false := decide_eq_false g1
    clear K
    go_enter Try.func22, Try.ntmps22
    go_upto_region 1 with fail
    rw [← hW1]
    clear hW1
    go_wp2_with fail
    refine (HA.out W1).mono ?_
    rintro e w2 ⟨rfl, hb2⟩
    have z2 := hb2.size
    clear a0 a1 a2
    obtain ⟨W3, hW3⟩ : ∃ W3, W3 = w2.alloc (.cells #[.int .i64 0, .int .i64 0, .string ⟨#[]⟩, .slice none 0 0] 63) := ⟨_, rfl⟩
    have b3 : Below w2.heap.size w2 W3 := by rw [hW3]; exact (Below.refl _ _).alloc (Nat.le_refl _) _
    have z3 : w2.heap.size < W3.heap.size := by rw [hW3]; simp
    have X3 := (XA.out.below hb2 (by omega)).below b3 (by omega)
    have lw : w.heap.size < W3.heap.size := by omega
    have a0 : ∀ x : Near W3, x.at_.cell? ⟨w.heap.size, 0, none⟩ = some (.int .i64 k) := fun x => x.cell 0 X3.c0 lw
    have a1 : ∀ x : Near W3, x.at_.cell? ⟨w.heap.size, 1, none⟩ = some (.int .i64 n) := fun x => x.cell 1 X3.c1 lw
    have a2 : ∀ x : Near W3, x.at_.cell? ⟨w.heap.size, 2, none⟩ = some (.string t) := fun x => x.cell 2 X3.c2 lw
    have bw : Below w.heap.size w W3 := b1.trans ((hb2.trans (b3.mono (by omega))).mono (by omega))
    clear X3 XA
    go_upto_region 4 with fail
    rw [← hW3]
    clear hW3
    refine wp_region_near (by kernel_rfl) (by kernel_rfl) ?_
    repeat (go_big_quiet_step ((go_at_call 38; with_reducible exact Calls.near (hcn _))))
    refine wpQuiet_nil ?_
    intro _ hw1
    obtain ⟨nx, hw2⟩ := hw1
    subst hw2
    go_wp2_with fail
    go_ret
    exact ⟨ret_bool HQ.out.symm, bw.trans (nx.below.mono (by omega))⟩
theorem among_any (v : Vu) (p : Int) (w : World) (ht : v.t.size ≤ 9223372036854775807) : Calls Try.prog 22 #[Vu.val v, .int .i64 p] w fun e w' => e = .returned (.bool (v.ok p)) ∧ Below w.heap.size w w' := by
  obtain ⟨k, n, t⟩ := v
  by_cases h : 0 ≤ Vu.kd k
  · exact among_atom k n t p w ht h
  · exact among_other k n t p w h
end Go.Proofs.Ytnldlbglgalbaab
