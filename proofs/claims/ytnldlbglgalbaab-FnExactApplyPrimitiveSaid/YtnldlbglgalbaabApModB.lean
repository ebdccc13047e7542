/-
  The model's l8Apply (written by gen/app9.py).
-/
import Derived.Test.YtnldlbglgalbaabApI
namespace Go.Proofs.Ytnldlbglgalbaab
open Go.RowKit
set_option maxRecDepth 100000 in
set_option maxHeartbeats 4000000 in
theorem sPure4_nx (a b : Vu) (m : List Pq) (A A2 : Option Addr) (c c2 B : Nat) (w : World) (hin : Vu.E.LIn w B A c [a, b]) (hl : Pq.E.LIn w B A2 c2 m) (hB : B ≤ w.heap.size) (oa : a.ok m.length = true) (ob : b.ok m.length = true)  (hk : ¬ a.k = 3) :
    Calls Try.prog 18 #[.int .i64 4, .slice A 2 c, .slice A2 m.length c2] w fun e w' => e = .returned (ansV (outP 4 (rawP 4 [a, b] m))) ∧ Below w.heap.size w w' := by
  obtain ⟨V, hV⟩ : ∃ V, V = outP 4 (rawP 4 [a, b] m) := ⟨_, rfl⟩
  rw [← hV]
  obtain ⟨ab, ao, rfl, hab, a0, a1, a2, _⟩ := Vu.at_ hin (i := 0) (x := a) rfl
  obtain ⟨ab2, ao2, e2, _, d0, d1, d2, _⟩ := Vu.at_ hin (i := 1) (x := b) rfl
  simp only [Option.some.injEq, Addr.mk.injEq] at e2
  obtain ⟨rfl, rfl, _⟩ := e2
  simp only [Nat.zero_mul, Nat.one_mul, Nat.add_zero] at a0 a1 a2 d0 d1 d2
  have e0 : rawP 4 [a, b] m = none := by simp [rawP, hk]
  have HQ : Hid (V = (.zero, badP 4)) := hV.trans (by rw [e0]; rfl)
  have ek : (a.k != 3) = true := by simpa using hk
  clear hk e0 hV oa ob
  obtain ⟨W1, hW1⟩ : ∃ W1, W1 = w.alloc (.cells #[.int .i64 0, .int .i64 0, .string ⟨#[]⟩] 27) := ⟨_, rfl⟩
  have B1 : Below w.heap.size w W1 := by rw [hW1]; exact (Below.refl _ _).alloc (Nat.le_refl _) _
  have z1 : w.heap.size < W1.heap.size := by rw [hW1]; simp
  have R0 : D.Blk W1 w.heap.size 27 #[.int .i64 0, .int .i64 0, .string ⟨#[]⟩] := by rw [hW1]; exact D.Blk.new _ _ _
  have a0 := (B1.cell (p := ⟨ab, ao, none⟩) (show ab < _ by omega)).trans a0
  have a1 := (B1.cell (p := ⟨ab, ao + 1, none⟩) (show ab < _ by omega)).trans a1
  have a2 := (B1.cell (p := ⟨ab, ao + 2, none⟩) (show ab < _ by omega)).trans a2
  have d0 := (B1.cell (p := ⟨ab, ao + 3, none⟩) (show ab < _ by omega)).trans d0
  have d1 := (B1.cell (p := ⟨ab, ao + 3 + 1, none⟩) (show ab < _ by omega)).trans d1
  have d2 := (B1.cell (p := ⟨ab, ao + 3 + 2, none⟩) (show ab < _ by omega)).trans d2
  have la : ab < W1.heap.size := by omega
  go_enter Try.func18, Try.ntmps18
  go_upto_region 1 with fail
  rw [← hW1]
  clear hW1
  go_wp2_with fail
  (with_reducible refine (sprimN_x W1).mono ?_)
  rintro e w2 ⟨rfl, hn2, hb2⟩
  have n0 : World.cell? w2 ⟨W1.heap.size, 4, none⟩ = some (.string ⟨#[60]⟩) := hn2.cell 4
  clear hn2
  have z2 := hb2.size
  have R2 := R0.below hb2 z1
  have a0 := (hb2.cell (p := ⟨ab, ao, none⟩) la).trans a0
  have a1 := (hb2.cell (p := ⟨ab, ao + 1, none⟩) la).trans a1
  have a2 := (hb2.cell (p := ⟨ab, ao + 2, none⟩) la).trans a2
  have d0 := (hb2.cell (p := ⟨ab, ao + 3, none⟩) la).trans d0
  have d1 := (hb2.cell (p := ⟨ab, ao + 3 + 1, none⟩) la).trans d1
  have d2 := (hb2.cell (p := ⟨ab, ao + 3 + 2, none⟩) la).trans d2
  go_upto_region 3 with fail
  obtain ⟨W4, hW4⟩ : ∃ W4, W4 = w2.alloc (.cells #[.int .i64 a.k, .int .i64 a.n, .string a.t] 27) := ⟨_, rfl⟩
  rw [← hW4]
  have h4 : Below w2.heap.size w2 W4 := by rw [hW4]; exact (Below.refl _ _).alloc (Nat.le_refl _) _
  have XV : Vu.Box W4 w2.heap.size a := by rw [hW4]; exact Vu.Box.new _ _ _
  clear hW4 n0
  obtain ⟨v0, v1, v2⟩ := XV
  have z4 := h4.size
  have R4 := R2.below h4 (by omega)
  have b4 : Below w.heap.size w W4 := B1.trans ((hb2.trans (h4.mono z2)).mono (by omega))
  have a0 := (h4.cell (p := ⟨ab, ao, none⟩) (show ab < _ by omega)).trans a0
  have a1 := (h4.cell (p := ⟨ab, ao + 1, none⟩) (show ab < _ by omega)).trans a1
  have a2 := (h4.cell (p := ⟨ab, ao + 2, none⟩) (show ab < _ by omega)).trans a2
  have d0 := (h4.cell (p := ⟨ab, ao + 3, none⟩) (show ab < _ by omega)).trans d0
  have d1 := (h4.cell (p := ⟨ab, ao + 3 + 1, none⟩) (show ab < _ by omega)).trans d1
  have d2 := (h4.cell (p := ⟨ab, ao + 3 + 2, none⟩) (show ab < _ by omega)).trans d2
  have r0 : World.cell? W4 ⟨w.heap.size, 0, none⟩ = some (.int .i64 0) := R4.cell 0
  have r1 : World.cell? W4 ⟨w.heap.size, 1, none⟩ = some (.int .i64 0) := R4.cell 1
  have r2 : World.cell? W4 ⟨w.heap.size, 2, none⟩ = some (.string ⟨#[]⟩) := R4.cell 2
  have g0 := R4.frozen 0
  have g1 := R4.frozen 1
  have g2 := R4.frozen 2
  go_wp2_with fail
  refine bodyPost_ret (v := .tuple #[.agg #[.int .i64 0, .int .i64 0, .string ⟨#[]⟩], .string ⟨#[60, 58, 32, 98, 97, 100, 32, 97, 114, 103, 117, 109, 101, 110, 116]⟩]) (by simp [results, Try.results18, go_sem, r0, r1, r2]; (first | done | rfl | exact pure4_cat)) rfl ⟨by rw [HQ.out]; rfl, ?_⟩
  exact ((b4.setCell (by simp) _).setCell (by simp) _).setCell (by simp) _
set_option maxRecDepth 100000 in
set_option maxHeartbeats 4000000 in
theorem sPure4_yn (a b : Vu) (m : List Pq) (A A2 : Option Addr) (c c2 B : Nat) (w : World) (hin : Vu.E.LIn w B A c [a, b]) (hl : Pq.E.LIn w B A2 c2 m) (hB : B ≤ w.heap.size) (oa : a.ok m.length = true) (ob : b.ok m.length = true)  (hk : a.k = 3) (hk2 : ¬ b.k = 3) :
    Calls Try.prog 18 #[.int .i64 4, .slice A 2 c, .slice A2 m.length c2] w fun e w' => e = .returned (ansV (outP 4 (rawP 4 [a, b] m))) ∧ Below w.heap.size w w' := by
  obtain ⟨V, hV⟩ : ∃ V, V = outP 4 (rawP 4 [a, b] m) := ⟨_, rfl⟩
  rw [← hV]
  obtain ⟨ab, ao, rfl, hab, a0, a1, a2, _⟩ := Vu.at_ hin (i := 0) (x := a) rfl
  obtain ⟨ab2, ao2, e2, _, d0, d1, d2, _⟩ := Vu.at_ hin (i := 1) (x := b) rfl
  simp only [Option.some.injEq, Addr.mk.injEq] at e2
  obtain ⟨rfl, rfl, _⟩ := e2
  simp only [Nat.zero_mul, Nat.one_mul, Nat.add_zero] at a0 a1 a2 d0 d1 d2
  have e0 : rawP 4 [a, b] m = none := by simp [rawP, hk2]
  have HQ : Hid (V = (.zero, badP 4)) := hV.trans (by rw [e0]; rfl)
  have ek : (a.k != 3) = false := by simp [hk]
  have ek2 : (b.k != 3) = true := by simpa using hk2
  clear hk2
  clear hk e0 hV oa ob
  obtain ⟨W1, hW1⟩ : ∃ W1, W1 = w.alloc (.cells #[.int .i64 0, .int .i64 0, .string ⟨#[]⟩] 27) := ⟨_, rfl⟩
  have B1 : Below w.heap.size w W1 := by rw [hW1]; exact (Below.refl _ _).alloc (Nat.le_refl _) _
  have z1 : w.heap.size < W1.heap.size := by rw [hW1]; simp
  have R0 : D.Blk W1 w.heap.size 27 #[.int .i64 0, .int .i64 0, .string ⟨#[]⟩] := by rw [hW1]; exact D.Blk.new _ _ _
  have a0 := (B1.cell (p := ⟨ab, ao, none⟩) (show ab < _ by omega)).trans a0
  have a1 := (B1.cell (p := ⟨ab, ao + 1, none⟩) (show ab < _ by omega)).trans a1
  have a2 := (B1.cell (p := ⟨ab, ao + 2, none⟩) (show ab < _ by omega)).trans a2
  have d0 := (B1.cell (p := ⟨ab, ao + 3, none⟩) (show ab < _ by omega)).trans d0
  have d1 := (B1.cell (p := ⟨ab, ao + 3 + 1, none⟩) (show ab < _ by omega)).trans d1
  have d2 := (B1.cell (p := ⟨ab, ao + 3 + 2, none⟩) (show ab < _ by omega)).trans d2
  have la : ab < W1.heap.size := by omega
  go_enter Try.func18, Try.ntmps18
  go_upto_region 1 with fail
  rw [← hW1]
  clear hW1
  go_wp2_with fail
  (with_reducible refine (sprimN_x W1).mono ?_)
  rintro e w2 ⟨rfl, hn2, hb2⟩
  have n0 : World.cell? w2 ⟨W1.heap.size, 4, none⟩ = some (.string ⟨#[60]⟩) := hn2.cell 4
  clear hn2
  have z2 := hb2.size
  have R2 := R0.below hb2 z1
  have a0 := (hb2.cell (p := ⟨ab, ao, none⟩) la).trans a0
  have a1 := (hb2.cell (p := ⟨ab, ao + 1, none⟩) la).trans a1
  have a2 := (hb2.cell (p := ⟨ab, ao + 2, none⟩) la).trans a2
  have d0 := (hb2.cell (p := ⟨ab, ao + 3, none⟩) la).trans d0
  have d1 := (hb2.cell (p := ⟨ab, ao + 3 + 1, none⟩) la).trans d1
  have d2 := (hb2.cell (p := ⟨ab, ao + 3 + 2, none⟩) la).trans d2
  go_upto_region 3 with fail
  obtain ⟨W4, hW4⟩ : ∃ W4, W4 = w2.alloc (.cells #[.int .i64 a.k, .int .i64 a.n, .string a.t] 27) := ⟨_, rfl⟩
  rw [← hW4]
  have h4 : Below w2.heap.size w2 W4 := by rw [hW4]; exact (Below.refl _ _).alloc (Nat.le_refl _) _
  have XV : Vu.Box W4 w2.heap.size a := by rw [hW4]; exact Vu.Box.new _ _ _
  clear hW4 n0
  obtain ⟨v0, v1, v2⟩ := XV
  have z4 := h4.size
  have R4 := R2.below h4 (by omega)
  have b4 : Below w.heap.size w W4 := B1.trans ((hb2.trans (h4.mono z2)).mono (by omega))
  have a0 := (h4.cell (p := ⟨ab, ao, none⟩) (show ab < _ by omega)).trans a0
  have a1 := (h4.cell (p := ⟨ab, ao + 1, none⟩) (show ab < _ by omega)).trans a1
  have a2 := (h4.cell (p := ⟨ab, ao + 2, none⟩) (show ab < _ by omega)).trans a2
  have d0 := (h4.cell (p := ⟨ab, ao + 3, none⟩) (show ab < _ by omega)).trans d0
  have d1 := (h4.cell (p := ⟨ab, ao + 3 + 1, none⟩) (show ab < _ by omega)).trans d1
  have d2 := (h4.cell (p := ⟨ab, ao + 3 + 2, none⟩) (show ab < _ by omega)).trans d2
  have r0 : World.cell? W4 ⟨w.heap.size, 0, none⟩ = some (.int .i64 0) := R4.cell 0
  have r1 : World.cell? W4 ⟨w.heap.size, 1, none⟩ = some (.int .i64 0) := R4.cell 1
  have r2 : World.cell? W4 ⟨w.heap.size, 2, none⟩ = some (.string ⟨#[]⟩) := R4.cell 2
  have g0 := R4.frozen 0
  have g1 := R4.frozen 1
  have g2 := R4.frozen 2
  go_wp2_with fail
  refine bodyPost_ret (v := .tuple #[.agg #[.int .i64 0, .int .i64 0, .string ⟨#[]⟩], .string ⟨#[60, 58, 32, 98, 97, 100, 32, 97, 114, 103, 117, 109, 101, 110, 116]⟩]) (by simp [results, Try.results18, go_sem, r0, r1, r2]; (first | done | rfl | exact pure4_cat)) rfl ⟨by rw [HQ.out]; rfl, ?_⟩
  exact ((b4.setCell (by simp) _).setCell (by simp) _).setCell (by simp) _
set_option maxRecDepth 100000 in
set_option maxHeartbeats 4000000 in
theorem sPure4_yy (a b : Vu) (m : List Pq) (A A2 : Option Addr) (c c2 B : Nat) (w : World) (hin : Vu.E.LIn w B A c [a, b]) (hl : Pq.E.LIn w B A2 c2 m) (hB : B ≤ w.heap.size) (oa : a.ok m.length = true) (ob : b.ok m.length = true)  (hk : a.k = 3) (hk2 : b.k = 3) :
    Calls Try.prog 18 #[.int .i64 4, .slice A 2 c, .slice A2 m.length c2] w fun e w' => e = .returned (ansV (outP 4 (rawP 4 [a, b] m))) ∧ Below w.heap.size w w' := by
  obtain ⟨V, hV⟩ : ∃ V, V = outP 4 (rawP 4 [a, b] m) := ⟨_, rfl⟩
  rw [← hV]
  obtain ⟨ab, ao, rfl, hab, a0, a1, a2, _⟩ := Vu.at_ hin (i := 0) (x := a) rfl
  obtain ⟨ab2, ao2, e2, _, d0, d1, d2, _⟩ := Vu.at_ hin (i := 1) (x := b) rfl
  simp only [Option.some.injEq, Addr.mk.injEq] at e2
  obtain ⟨rfl, rfl, _⟩ := e2
  simp only [Nat.zero_mul, Nat.one_mul, Nat.add_zero] at a0 a1 a2 d0 d1 d2
  have e0 : rawP 4 [a, b] m = some (twoN 4 a b) := by simp [rawP, hk, hk2]
  have HN : Hid (∀ u, Calls Try.prog 33 #[.int .i64 4, .int .i64 a.n, .int .i64 b.n] u fun e w' => e = .returned (.tuple #[.agg #[.int .i64 V.1.k, .int .i64 V.1.n, .string V.1.t], .string V.2]) ∧ Below u.heap.size u w') := fun u => by rw [hV, e0]; exact l8Num4 a b (Vu.ok_num oa hk) (Vu.ok_num ob hk2) u
  have HQ : Hid (V = V) := rfl
  have ek : (a.k != 3) = false := by simp [hk]
  have ek2 : (b.k != 3) = false := by simp [hk2]
  clear hk hk2 e0 hV oa ob
  obtain ⟨W1, hW1⟩ : ∃ W1, W1 = w.alloc (.cells #[.int .i64 0, .int .i64 0, .string ⟨#[]⟩] 27) := ⟨_, rfl⟩
  have B1 : Below w.heap.size w W1 := by rw [hW1]; exact (Below.refl _ _).alloc (Nat.le_refl _) _
  have z1 : w.heap.size < W1.heap.size := by rw [hW1]; simp
  have R0 : D.Blk W1 w.heap.size 27 #[.int .i64 0, .int .i64 0, .string ⟨#[]⟩] := by rw [hW1]; exact D.Blk.new _ _ _
  have a0 := (B1.cell (p := ⟨ab, ao, none⟩) (show ab < _ by omega)).trans a0
  have a1 := (B1.cell (p := ⟨ab, ao + 1, none⟩) (show ab < _ by omega)).trans a1
  have a2 := (B1.cell (p := ⟨ab, ao + 2, none⟩) (show ab < _ by omega)).trans a2
  have d0 := (B1.cell (p := ⟨ab, ao + 3, none⟩) (show ab < _ by omega)).trans d0
  have d1 := (B1.cell (p := ⟨ab, ao + 3 + 1, none⟩) (show ab < _ by omega)).trans d1
  have d2 := (B1.cell (p := ⟨ab, ao + 3 + 2, none⟩) (show ab < _ by omega)).trans d2
  have la : ab < W1.heap.size := by omega
  go_enter Try.func18, Try.ntmps18
  go_upto_region 1 with fail
  rw [← hW1]
  clear hW1
  go_wp2_with fail
  (with_reducible refine (sprimN_x W1).mono ?_)
  rintro e w2 ⟨rfl, hn2, hb2⟩
  have n0 : World.cell? w2 ⟨W1.heap.size, 4, none⟩ = some (.string ⟨#[60]⟩) := hn2.cell 4
  clear hn2
  have z2 := hb2.size
  have R2 := R0.below hb2 z1
  have a0 := (hb2.cell (p := ⟨ab, ao, none⟩) la).trans a0
  have a1 := (hb2.cell (p := ⟨ab, ao + 1, none⟩) la).trans a1
  have a2 := (hb2.cell (p := ⟨ab, ao + 2, none⟩) la).trans a2
  have d0 := (hb2.cell (p := ⟨ab, ao + 3, none⟩) la).trans d0
  have d1 := (hb2.cell (p := ⟨ab, ao + 3 + 1, none⟩) la).trans d1
  have d2 := (hb2.cell (p := ⟨ab, ao + 3 + 2, none⟩) la).trans d2
  go_upto_region 3 with fail
  obtain ⟨W4, hW4⟩ : ∃ W4, W4 = w2.alloc (.cells #[.int .i64 a.k, .int .i64 a.n, .string a.t] 27) := ⟨_, rfl⟩
  rw [← hW4]
  have h4 : Below w2.heap.size w2 W4 := by rw [hW4]; exact (Below.refl _ _).alloc (Nat.le_refl _) _
  have XV : Vu.Box W4 w2.heap.size a := by rw [hW4]; exact Vu.Box.new _ _ _
  clear hW4 n0
  obtain ⟨v0, v1, v2⟩ := XV
  have z4 := h4.size
  have R4 := R2.below h4 (by omega)
  have b4 : Below w.heap.size w W4 := B1.trans ((hb2.trans (h4.mono z2)).mono (by omega))
  have a0 := (h4.cell (p := ⟨ab, ao, none⟩) (show ab < _ by omega)).trans a0
  have a1 := (h4.cell (p := ⟨ab, ao + 1, none⟩) (show ab < _ by omega)).trans a1
  have a2 := (h4.cell (p := ⟨ab, ao + 2, none⟩) (show ab < _ by omega)).trans a2
  have d0 := (h4.cell (p := ⟨ab, ao + 3, none⟩) (show ab < _ by omega)).trans d0
  have d1 := (h4.cell (p := ⟨ab, ao + 3 + 1, none⟩) (show ab < _ by omega)).trans d1
  have d2 := (h4.cell (p := ⟨ab, ao + 3 + 2, none⟩) (show ab < _ by omega)).trans d2
  have r0 : World.cell? W4 ⟨w.heap.size, 0, none⟩ = some (.int .i64 0) := R4.cell 0
  have r1 : World.cell? W4 ⟨w.heap.size, 1, none⟩ = some (.int .i64 0) := R4.cell 1
  have r2 : World.cell? W4 ⟨w.heap.size, 2, none⟩ = some (.string ⟨#[]⟩) := R4.cell 2
  have g0 := R4.frozen 0
  have g1 := R4.frozen 1
  have g2 := R4.frozen 2
  go_wp2_with fail
  go_region_with (first | (go_at_call 33; (with_reducible refine (HN.out _).mono ?_); rintro e w5 ⟨rfl, hb5⟩; have hb6 : Below W4.heap.size W4 w5 := below_undrew hb5; have R5 := R4.below hb6 (by omega); have r0 : World.cell? w5 ⟨w.heap.size, 0, none⟩ = some (.int .i64 0) := R5.cell 0; have r1 : World.cell? w5 ⟨w.heap.size, 1, none⟩ = some (.int .i64 0) := R5.cell 1; have r2 : World.cell? w5 ⟨w.heap.size, 2, none⟩ = some (.string ⟨#[]⟩) := R5.cell 2; have g0 := R5.frozen 0; have g1 := R5.frozen 1; have g2 := R5.frozen 2))
  all_goals go_wp2_with fail
  all_goals (have b5 := b4.trans (hb6.mono (by omega)))
  all_goals refine bodyPost_ret (v := .tuple #[.agg #[.int .i64 V.1.k, .int .i64 V.1.n, .string V.1.t], .string V.2]) (by simp [results, Try.results18, go_sem, r0, r1, r2]) rfl ⟨rfl, ?_⟩
  all_goals exact ((b5.setCell (by simp) _).setCell (by simp) _).setCell (by simp) _
set_option maxRecDepth 100000 in
set_option maxHeartbeats 4000000 in
theorem sPure6_n (a : Vu) (m : List Pq) (A A2 : Option Addr) (c c2 B : Nat) (w : World) (hin : Vu.E.LIn w B A c [a]) (hl : Pq.E.LIn w B A2 c2 m) (hB : B ≤ w.heap.size) (oa : a.ok m.length = true)  (om : Pq.okL m = true) (hk : ¬ a.k = 7) :
    Calls Try.prog 18 #[.int .i64 6, .slice A 1 c, .slice A2 m.length c2] w fun e w' => e = .returned (ansV (outP 6 (rawP 6 [a] m))) ∧ Below w.heap.size w w' := by
  obtain ⟨V, hV⟩ : ∃ V, V = outP 6 (rawP 6 [a] m) := ⟨_, rfl⟩
  rw [← hV]
  obtain ⟨ab, ao, rfl, hab, a0, a1, a2, _⟩ := Vu.at_ hin (i := 0) (x := a) rfl
  simp only [Nat.zero_mul, Nat.add_zero] at a0 a1 a2
  have e0 : rawP 6 [a] m = none := by simp [rawP, hk]
  have HQ : Hid (V = (.zero, badP 6)) := hV.trans (by rw [e0]; rfl)
  have ek : (a.k != 7) = true := by simpa using hk
  clear hk e0 hV om oa
  obtain ⟨W1, hW1⟩ : ∃ W1, W1 = w.alloc (.cells #[.int .i64 0, .int .i64 0, .string ⟨#[]⟩] 27) := ⟨_, rfl⟩
  have B1 : Below w.heap.size w W1 := by rw [hW1]; exact (Below.refl _ _).alloc (Nat.le_refl _) _
  have z1 : w.heap.size < W1.heap.size := by rw [hW1]; simp
  have R0 : D.Blk W1 w.heap.size 27 #[.int .i64 0, .int .i64 0, .string ⟨#[]⟩] := by rw [hW1]; exact D.Blk.new _ _ _
  have a0 := (B1.cell (p := ⟨ab, ao, none⟩) (show ab < _ by omega)).trans a0
  have a1 := (B1.cell (p := ⟨ab, ao + 1, none⟩) (show ab < _ by omega)).trans a1
  have a2 := (B1.cell (p := ⟨ab, ao + 2, none⟩) (show ab < _ by omega)).trans a2
  have la : ab < W1.heap.size := by omega
  go_enter Try.func18, Try.ntmps18
  go_upto_region 1 with fail
  rw [← hW1]
  clear hW1
  go_wp2_with fail
  (with_reducible refine (sprimN_x W1).mono ?_)
  rintro e w2 ⟨rfl, hn2, hb2⟩
  have n0 : World.cell? w2 ⟨W1.heap.size, 6, none⟩ = some (.string ⟨#[99, 97, 114]⟩) := hn2.cell 6
  clear hn2
  have z2 := hb2.size
  have R2 := R0.below hb2 z1
  have a0 := (hb2.cell (p := ⟨ab, ao, none⟩) la).trans a0
  have a1 := (hb2.cell (p := ⟨ab, ao + 1, none⟩) la).trans a1
  have a2 := (hb2.cell (p := ⟨ab, ao + 2, none⟩) la).trans a2
  go_upto_region 3 with fail
  obtain ⟨W4, hW4⟩ : ∃ W4, W4 = w2.alloc (.cells #[.int .i64 a.k, .int .i64 a.n, .string a.t] 27) := ⟨_, rfl⟩
  rw [← hW4]
  have h4 : Below w2.heap.size w2 W4 := by rw [hW4]; exact (Below.refl _ _).alloc (Nat.le_refl _) _
  have XV : Vu.Box W4 w2.heap.size a := by rw [hW4]; exact Vu.Box.new _ _ _
  clear hW4 n0
  obtain ⟨v0, v1, v2⟩ := XV
  have z4 := h4.size
  have R4 := R2.below h4 (by omega)
  have b4 : Below w.heap.size w W4 := B1.trans ((hb2.trans (h4.mono z2)).mono (by omega))
  have a0 := (h4.cell (p := ⟨ab, ao, none⟩) (show ab < _ by omega)).trans a0
  have a1 := (h4.cell (p := ⟨ab, ao + 1, none⟩) (show ab < _ by omega)).trans a1
  have a2 := (h4.cell (p := ⟨ab, ao + 2, none⟩) (show ab < _ by omega)).trans a2
  have r0 : World.cell? W4 ⟨w.heap.size, 0, none⟩ = some (.int .i64 0) := R4.cell 0
  have r1 : World.cell? W4 ⟨w.heap.size, 1, none⟩ = some (.int .i64 0) := R4.cell 1
  have r2 : World.cell? W4 ⟨w.heap.size, 2, none⟩ = some (.string ⟨#[]⟩) := R4.cell 2
  have g0 := R4.frozen 0
  have g1 := R4.frozen 1
  have g2 := R4.frozen 2
  go_wp2_with fail
  refine bodyPost_ret (v := .tuple #[.agg #[.int .i64 0, .int .i64 0, .string ⟨#[]⟩], .string ⟨#[99, 97, 114, 58, 32, 98, 97, 100, 32, 97, 114, 103, 117, 109, 101, 110, 116]⟩]) (by simp [results, Try.results18, go_sem, r0, r1, r2]; (first | done | rfl | exact pure6_cat)) rfl ⟨by rw [HQ.out]; rfl, ?_⟩
  exact ((b4.setCell (by simp) _).setCell (by simp) _).setCell (by simp) _
set_option maxRecDepth 100000 in
set_option maxHeartbeats 4000000 in
theorem sPure6_y (a : Vu) (m : List Pq) (A A2 : Option Addr) (c c2 B : Nat) (w : World) (hin : Vu.E.LIn w B A c [a]) (hl : Pq.E.LIn w B A2 c2 m) (hB : B ≤ w.heap.size) (oa : a.ok m.length = true)  (om : Pq.okL m = true) (hk : a.k = 7) :
    Calls Try.prog 18 #[.int .i64 6, .slice A 1 c, .slice A2 m.length c2] w fun e w' => e = .returned (ansV (outP 6 (rawP 6 [a] m))) ∧ Below w.heap.size w w' := by
  obtain ⟨V, hV⟩ : ∃ V, V = outP 6 (rawP 6 [a] m) := ⟨_, rfl⟩
  rw [← hV]
  obtain ⟨ab, ao, rfl, hab, a0, a1, a2, _⟩ := Vu.at_ hin (i := 0) (x := a) rfl
  simp only [Nat.zero_mul, Nat.add_zero] at a0 a1 a2
  have g := Vu.ok_pair oa hk
  obtain ⟨gg1, gg2⟩ := g
  have hlt : a.n.toNat < m.length := by omega
  have hp : m[a.n.toNat]? = some m[a.n.toNat] := List.getElem?_eq_getElem hlt
  have oq := (Pq.okF_at m 0 (by unfold Pq.okL at om; exact (Bool.and_eq_true _ _ ▸ om).1) a.n.toNat hlt).1
  have e0 : rawP 6 [a] m = some (m[a.n.toNat].h) := by simp [rawP, hk, hlt]
  have HQ : Hid (V = (m[a.n.toNat].h, ⟨#[]⟩)) := hV.trans (by rw [e0]; exact out_val _ _ _ oq)
  obtain ⟨q, hq⟩ : ∃ q, q = m[a.n.toNat] := ⟨_, rfl⟩
  rw [← hq] at HQ hp
  obtain ⟨pb, po, rfl, hpb, p0, p1, p2, p3, p4, p5, _⟩ := Pq.at_ hl (i := a.n.toNat) (x := q) hp
  have hlc := hl.cap
  have ek : (a.k != 7) = false := by simp [hk]
  clear hk hp hq e0 hV oq om oa
  obtain ⟨W1, hW1⟩ : ∃ W1, W1 = w.alloc (.cells #[.int .i64 0, .int .i64 0, .string ⟨#[]⟩] 27) := ⟨_, rfl⟩
  have B1 : Below w.heap.size w W1 := by rw [hW1]; exact (Below.refl _ _).alloc (Nat.le_refl _) _
  have z1 : w.heap.size < W1.heap.size := by rw [hW1]; simp
  have R0 : D.Blk W1 w.heap.size 27 #[.int .i64 0, .int .i64 0, .string ⟨#[]⟩] := by rw [hW1]; exact D.Blk.new _ _ _
  have a0 := (B1.cell (p := ⟨ab, ao, none⟩) (show ab < _ by omega)).trans a0
  have a1 := (B1.cell (p := ⟨ab, ao + 1, none⟩) (show ab < _ by omega)).trans a1
  have a2 := (B1.cell (p := ⟨ab, ao + 2, none⟩) (show ab < _ by omega)).trans a2
  have p0 := (B1.cell (p := ⟨pb, po + a.n.toNat * 6, none⟩) (show pb < _ by omega)).trans p0
  have p1 := (B1.cell (p := ⟨pb, po + a.n.toNat * 6 + 1, none⟩) (show pb < _ by omega)).trans p1
  have p2 := (B1.cell (p := ⟨pb, po + a.n.toNat * 6 + 2, none⟩) (show pb < _ by omega)).trans p2
  have p3 := (B1.cell (p := ⟨pb, po + a.n.toNat * 6 + 3, none⟩) (show pb < _ by omega)).trans p3
  have p4 := (B1.cell (p := ⟨pb, po + a.n.toNat * 6 + 4, none⟩) (show pb < _ by omega)).trans p4
  have p5 := (B1.cell (p := ⟨pb, po + a.n.toNat * 6 + 5, none⟩) (show pb < _ by omega)).trans p5
  have la : ab < W1.heap.size := by omega
  have lp : pb < W1.heap.size := by omega
  go_enter Try.func18, Try.ntmps18
  go_upto_region 1 with fail
  rw [← hW1]
  clear hW1
  go_wp2_with fail
  (with_reducible refine (sprimN_x W1).mono ?_)
  rintro e w2 ⟨rfl, hn2, hb2⟩
  have n0 : World.cell? w2 ⟨W1.heap.size, 6, none⟩ = some (.string ⟨#[99, 97, 114]⟩) := hn2.cell 6
  clear hn2
  have z2 := hb2.size
  have R2 := R0.below hb2 z1
  have a0 := (hb2.cell (p := ⟨ab, ao, none⟩) la).trans a0
  have a1 := (hb2.cell (p := ⟨ab, ao + 1, none⟩) la).trans a1
  have a2 := (hb2.cell (p := ⟨ab, ao + 2, none⟩) la).trans a2
  have p0 := (hb2.cell (p := ⟨pb, po + a.n.toNat * 6, none⟩) lp).trans p0
  have p1 := (hb2.cell (p := ⟨pb, po + a.n.toNat * 6 + 1, none⟩) lp).trans p1
  have p2 := (hb2.cell (p := ⟨pb, po + a.n.toNat * 6 + 2, none⟩) lp).trans p2
  have p3 := (hb2.cell (p := ⟨pb, po + a.n.toNat * 6 + 3, none⟩) lp).trans p3
  have p4 := (hb2.cell (p := ⟨pb, po + a.n.toNat * 6 + 4, none⟩) lp).trans p4
  have p5 := (hb2.cell (p := ⟨pb, po + a.n.toNat * 6 + 5, none⟩) lp).trans p5
  go_upto_region 3 with fail
  obtain ⟨W4, hW4⟩ : ∃ W4, W4 = w2.alloc (.cells #[.int .i64 a.k, .int .i64 a.n, .string a.t] 27) := ⟨_, rfl⟩
  rw [← hW4]
  have h4 : Below w2.heap.size w2 W4 := by rw [hW4]; exact (Below.refl _ _).alloc (Nat.le_refl _) _
  have XV : Vu.Box W4 w2.heap.size a := by rw [hW4]; exact Vu.Box.new _ _ _
  clear hW4 n0
  obtain ⟨v0, v1, v2⟩ := XV
  have z4 := h4.size
  have R4 := R2.below h4 (by omega)
  have b4 : Below w.heap.size w W4 := B1.trans ((hb2.trans (h4.mono z2)).mono (by omega))
  have a0 := (h4.cell (p := ⟨ab, ao, none⟩) (show ab < _ by omega)).trans a0
  have a1 := (h4.cell (p := ⟨ab, ao + 1, none⟩) (show ab < _ by omega)).trans a1
  have a2 := (h4.cell (p := ⟨ab, ao + 2, none⟩) (show ab < _ by omega)).trans a2
  have p0 := (h4.cell (p := ⟨pb, po + a.n.toNat * 6, none⟩) (show pb < _ by omega)).trans p0
  have p1 := (h4.cell (p := ⟨pb, po + a.n.toNat * 6 + 1, none⟩) (show pb < _ by omega)).trans p1
  have p2 := (h4.cell (p := ⟨pb, po + a.n.toNat * 6 + 2, none⟩) (show pb < _ by omega)).trans p2
  have p3 := (h4.cell (p := ⟨pb, po + a.n.toNat * 6 + 3, none⟩) (show pb < _ by omega)).trans p3
  have p4 := (h4.cell (p := ⟨pb, po + a.n.toNat * 6 + 4, none⟩) (show pb < _ by omega)).trans p4
  have p5 := (h4.cell (p := ⟨pb, po + a.n.toNat * 6 + 5, none⟩) (show pb < _ by omega)).trans p5
  have r0 : World.cell? W4 ⟨w.heap.size, 0, none⟩ = some (.int .i64 0) := R4.cell 0
  have r1 : World.cell? W4 ⟨w.heap.size, 1, none⟩ = some (.int .i64 0) := R4.cell 1
  have r2 : World.cell? W4 ⟨w.heap.size, 2, none⟩ = some (.string ⟨#[]⟩) := R4.cell 2
  have g0 := R4.frozen 0
  have g1 := R4.frozen 1
  have g2 := R4.frozen 2
  go_wp2_with fail
  refine bodyPost_ret (v := .tuple #[.agg #[.int .i64 q.h.k, .int .i64 q.h.n, .string q.h.t], .string ⟨#[]⟩]) (by simp [results, Try.results18, go_sem, r0, r1, r2]) rfl ⟨by rw [HQ.out]; rfl, ?_⟩
  exact ((b4.setCell (by simp) _).setCell (by simp) _).setCell (by simp) _
set_option maxRecDepth 100000 in
set_option maxHeartbeats 4000000 in
theorem sPure7_n (a : Vu) (m : List Pq) (A A2 : Option Addr) (c c2 B : Nat) (w : World) (hin : Vu.E.LIn w B A c [a]) (hl : Pq.E.LIn w B A2 c2 m) (hB : B ≤ w.heap.size) (oa : a.ok m.length = true)  (om : Pq.okL m = true) (hk : ¬ a.k = 7) :
    Calls Try.prog 18 #[.int .i64 7, .slice A 1 c, .slice A2 m.length c2] w fun e w' => e = .returned (ansV (outP 7 (rawP 7 [a] m))) ∧ Below w.heap.size w w' := by
  obtain ⟨V, hV⟩ : ∃ V, V = outP 7 (rawP 7 [a] m) := ⟨_, rfl⟩
  rw [← hV]
  obtain ⟨ab, ao, rfl, hab, a0, a1, a2, _⟩ := Vu.at_ hin (i := 0) (x := a) rfl
  simp only [Nat.zero_mul, Nat.add_zero] at a0 a1 a2
  have e0 : rawP 7 [a] m = none := by simp [rawP, hk]
  have HQ : Hid (V = (.zero, badP 7)) := hV.trans (by rw [e0]; rfl)
  have ek : (a.k != 7) = true := by simpa using hk
  clear hk e0 hV om oa
  obtain ⟨W1, hW1⟩ : ∃ W1, W1 = w.alloc (.cells #[.int .i64 0, .int .i64 0, .string ⟨#[]⟩] 27) := ⟨_, rfl⟩
  have B1 : Below w.heap.size w W1 := by rw [hW1]; exact (Below.refl _ _).alloc (Nat.le_refl _) _
  have z1 : w.heap.size < W1.heap.size := by rw [hW1]; simp
  have R0 : D.Blk W1 w.heap.size 27 #[.int .i64 0, .int .i64 0, .string ⟨#[]⟩] := by rw [hW1]; exact D.Blk.new _ _ _
  have a0 := (B1.cell (p := ⟨ab, ao, none⟩) (show ab < _ by omega)).trans a0
  have a1 := (B1.cell (p := ⟨ab, ao + 1, none⟩) (show ab < _ by omega)).trans a1
  have a2 := (B1.cell (p := ⟨ab, ao + 2, none⟩) (show ab < _ by omega)).trans a2
  have la : ab < W1.heap.size := by omega
  go_enter Try.func18, Try.ntmps18
  go_upto_region 1 with fail
  rw [← hW1]
  clear hW1
  go_wp2_with fail
  (with_reducible refine (sprimN_x W1).mono ?_)
  rintro e w2 ⟨rfl, hn2, hb2⟩
  have n0 : World.cell? w2 ⟨W1.heap.size, 7, none⟩ = some (.string ⟨#[99, 100, 114]⟩) := hn2.cell 7
  clear hn2
  have z2 := hb2.size
  have R2 := R0.below hb2 z1
  have a0 := (hb2.cell (p := ⟨ab, ao, none⟩) la).trans a0
  have a1 := (hb2.cell (p := ⟨ab, ao + 1, none⟩) la).trans a1
  have a2 := (hb2.cell (p := ⟨ab, ao + 2, none⟩) la).trans a2
  go_upto_region 3 with fail
  obtain ⟨W4, hW4⟩ : ∃ W4, W4 = w2.alloc (.cells #[.int .i64 a.k, .int .i64 a.n, .string a.t] 27) := ⟨_, rfl⟩
  rw [← hW4]
  have h4 : Below w2.heap.size w2 W4 := by rw [hW4]; exact (Below.refl _ _).alloc (Nat.le_refl _) _
  have XV : Vu.Box W4 w2.heap.size a := by rw [hW4]; exact Vu.Box.new _ _ _
  clear hW4 n0
  obtain ⟨v0, v1, v2⟩ := XV
  have z4 := h4.size
  have R4 := R2.below h4 (by omega)
  have b4 : Below w.heap.size w W4 := B1.trans ((hb2.trans (h4.mono z2)).mono (by omega))
  have a0 := (h4.cell (p := ⟨ab, ao, none⟩) (show ab < _ by omega)).trans a0
  have a1 := (h4.cell (p := ⟨ab, ao + 1, none⟩) (show ab < _ by omega)).trans a1
  have a2 := (h4.cell (p := ⟨ab, ao + 2, none⟩) (show ab < _ by omega)).trans a2
  have r0 : World.cell? W4 ⟨w.heap.size, 0, none⟩ = some (.int .i64 0) := R4.cell 0
  have r1 : World.cell? W4 ⟨w.heap.size, 1, none⟩ = some (.int .i64 0) := R4.cell 1
  have r2 : World.cell? W4 ⟨w.heap.size, 2, none⟩ = some (.string ⟨#[]⟩) := R4.cell 2
  have g0 := R4.frozen 0
  have g1 := R4.frozen 1
  have g2 := R4.frozen 2
  go_wp2_with fail
  refine bodyPost_ret (v := .tuple #[.agg #[.int .i64 0, .int .i64 0, .string ⟨#[]⟩], .string ⟨#[99, 100, 114, 58, 32, 98, 97, 100, 32, 97, 114, 103, 117, 109, 101, 110, 116]⟩]) (by simp [results, Try.results18, go_sem, r0, r1, r2]; (first | done | rfl | exact pure7_cat)) rfl ⟨by rw [HQ.out]; rfl, ?_⟩
  exact ((b4.setCell (by simp) _).setCell (by simp) _).setCell (by simp) _
set_option maxRecDepth 100000 in
set_option maxHeartbeats 4000000 in
theorem sPure7_y (a : Vu) (m : List Pq) (A A2 : Option Addr) (c c2 B : Nat) (w : World) (hin : Vu.E.LIn w B A c [a]) (hl : Pq.E.LIn w B A2 c2 m) (hB : B ≤ w.heap.size) (oa : a.ok m.length = true)  (om : Pq.okL m = true) (hk : a.k = 7) :
    Calls Try.prog 18 #[.int .i64 7, .slice A 1 c, .slice A2 m.length c2] w fun e w' => e = .returned (ansV (outP 7 (rawP 7 [a] m))) ∧ Below w.heap.size w w' := by
  obtain ⟨V, hV⟩ : ∃ V, V = outP 7 (rawP 7 [a] m) := ⟨_, rfl⟩
  rw [← hV]
  obtain ⟨ab, ao, rfl, hab, a0, a1, a2, _⟩ := Vu.at_ hin (i := 0) (x := a) rfl
  simp only [Nat.zero_mul, Nat.add_zero] at a0 a1 a2
  have g := Vu.ok_pair oa hk
  obtain ⟨gg1, gg2⟩ := g
  have hlt : a.n.toNat < m.length := by omega
  have hp : m[a.n.toNat]? = some m[a.n.toNat] := List.getElem?_eq_getElem hlt
  have oq := (Pq.okF_at m 0 (by unfold Pq.okL at om; exact (Bool.and_eq_true _ _ ▸ om).1) a.n.toNat hlt).2
  have e0 : rawP 7 [a] m = some (m[a.n.toNat].u) := by simp [rawP, hk, hlt]
  have HQ : Hid (V = (m[a.n.toNat].u, ⟨#[]⟩)) := hV.trans (by rw [e0]; exact out_val _ _ _ oq)
  obtain ⟨q, hq⟩ : ∃ q, q = m[a.n.toNat] := ⟨_, rfl⟩
  rw [← hq] at HQ hp
  obtain ⟨pb, po, rfl, hpb, p0, p1, p2, p3, p4, p5, _⟩ := Pq.at_ hl (i := a.n.toNat) (x := q) hp
  have hlc := hl.cap
  have ek : (a.k != 7) = false := by simp [hk]
  clear hk hp hq e0 hV oq om oa
  obtain ⟨W1, hW1⟩ : ∃ W1, W1 = w.alloc (.cells #[.int .i64 0, .int .i64 0, .string ⟨#[]⟩] 27) := ⟨_, rfl⟩
  have B1 : Below w.heap.size w W1 := by rw [hW1]; exact (Below.refl _ _).alloc (Nat.le_refl _) _
  have z1 : w.heap.size < W1.heap.size := by rw [hW1]; simp
  have R0 : D.Blk W1 w.heap.size 27 #[.int .i64 0, .int .i64 0, .string ⟨#[]⟩] := by rw [hW1]; exact D.Blk.new _ _ _
  have a0 := (B1.cell (p := ⟨ab, ao, none⟩) (show ab < _ by omega)).trans a0
  have a1 := (B1.cell (p := ⟨ab, ao + 1, none⟩) (show ab < _ by omega)).trans a1
  have a2 := (B1.cell (p := ⟨ab, ao + 2, none⟩) (show ab < _ by omega)).trans a2
  have p0 := (B1.cell (p := ⟨pb, po + a.n.toNat * 6, none⟩) (show pb < _ by omega)).trans p0
  have p1 := (B1.cell (p := ⟨pb, po + a.n.toNat * 6 + 1, none⟩) (show pb < _ by omega)).trans p1
  have p2 := (B1.cell (p := ⟨pb, po + a.n.toNat * 6 + 2, none⟩) (show pb < _ by omega)).trans p2
  have p3 := (B1.cell (p := ⟨pb, po + a.n.toNat * 6 + 3, none⟩) (show pb < _ by omega)).trans p3
  have p4 := (B1.cell (p := ⟨pb, po + a.n.toNat * 6 + 4, none⟩) (show pb < _ by omega)).trans p4
  have p5 := (B1.cell (p := ⟨pb, po + a.n.toNat * 6 + 5, none⟩) (show pb < _ by omega)).trans p5
  have la : ab < W1.heap.size := by omega
  have lp : pb < W1.heap.size := by omega
  go_enter Try.func18, Try.ntmps18
  go_upto_region 1 with fail
  rw [← hW1]
  clear hW1
  go_wp2_with fail
  (with_reducible refine (sprimN_x W1).mono ?_)
  rintro e w2 ⟨rfl, hn2, hb2⟩
  have n0 : World.cell? w2 ⟨W1.heap.size, 7, none⟩ = some (.string ⟨#[99, 100, 114]⟩) := hn2.cell 7
  clear hn2
  have z2 := hb2.size
  have R2 := R0.below hb2 z1
  have a0 := (hb2.cell (p := ⟨ab, ao, none⟩) la).trans a0
  have a1 := (hb2.cell (p := ⟨ab, ao + 1, none⟩) la).trans a1
  have a2 := (hb2.cell (p := ⟨ab, ao + 2, none⟩) la).trans a2
  have p0 := (hb2.cell (p := ⟨pb, po + a.n.toNat * 6, none⟩) lp).trans p0
  have p1 := (hb2.cell (p := ⟨pb, po + a.n.toNat * 6 + 1, none⟩) lp).trans p1
  have p2 := (hb2.cell (p := ⟨pb, po + a.n.toNat * 6 + 2, none⟩) lp).trans p2
  have p3 := (hb2.cell (p := ⟨pb, po + a.n.toNat * 6 + 3, none⟩) lp).trans p3
  have p4 := (hb2.cell (p := ⟨pb, po + a.n.toNat * 6 + 4, none⟩) lp).trans p4
  have p5 := (hb2.cell (p := ⟨pb, po + a.n.toNat * 6 + 5, none⟩) lp).trans p5
  go_upto_region 3 with fail
  obtain ⟨W4, hW4⟩ : ∃ W4, W4 = w2.alloc (.cells #[.int .i64 a.k, .int .i64 a.n, .string a.t] 27) := ⟨_, rfl⟩
  rw [← hW4]
  have h4 : Below w2.heap.size w2 W4 := by rw [hW4]; exact (Below.refl _ _).alloc (Nat.le_refl _) _
  have XV : Vu.Box W4 w2.heap.size a := by rw [hW4]; exact Vu.Box.new _ _ _
  clear hW4 n0
  obtain ⟨v0, v1, v2⟩ := XV
  have z4 := h4.size
  have R4 := R2.below h4 (by omega)
  have b4 : Below w.heap.size w W4 := B1.trans ((hb2.trans (h4.mono z2)).mono (by omega))
  have a0 := (h4.cell (p := ⟨ab, ao, none⟩) (show ab < _ by omega)).trans a0
  have a1 := (h4.cell (p := ⟨ab, ao + 1, none⟩) (show ab < _ by omega)).trans a1
  have a2 := (h4.cell (p := ⟨ab, ao + 2, none⟩) (show ab < _ by omega)).trans a2
  have p0 := (h4.cell (p := ⟨pb, po + a.n.toNat * 6, none⟩) (show pb < _ by omega)).trans p0
  have p1 := (h4.cell (p := ⟨pb, po + a.n.toNat * 6 + 1, none⟩) (show pb < _ by omega)).trans p1
  have p2 := (h4.cell (p := ⟨pb, po + a.n.toNat * 6 + 2, none⟩) (show pb < _ by omega)).trans p2
  have p3 := (h4.cell (p := ⟨pb, po + a.n.toNat * 6 + 3, none⟩) (show pb < _ by omega)).trans p3
  have p4 := (h4.cell (p := ⟨pb, po + a.n.toNat * 6 + 4, none⟩) (show pb < _ by omega)).trans p4
  have p5 := (h4.cell (p := ⟨pb, po + a.n.toNat * 6 + 5, none⟩) (show pb < _ by omega)).trans p5
  have r0 : World.cell? W4 ⟨w.heap.size, 0, none⟩ = some (.int .i64 0) := R4.cell 0
  have r1 : World.cell? W4 ⟨w.heap.size, 1, none⟩ = some (.int .i64 0) := R4.cell 1
  have r2 : World.cell? W4 ⟨w.heap.size, 2, none⟩ = some (.string ⟨#[]⟩) := R4.cell 2
  have g0 := R4.frozen 0
  have g1 := R4.frozen 1
  have g2 := R4.frozen 2
  go_wp2_with fail
  refine bodyPost_ret (v := .tuple #[.agg #[.int .i64 q.u.k, .int .i64 q.u.n, .string q.u.t], .string ⟨#[]⟩]) (by simp [results, Try.results18, go_sem, r0, r1, r2]) rfl ⟨by rw [HQ.out]; rfl, ?_⟩
  exact ((b4.setCell (by simp) _).setCell (by simp) _).setCell (by simp) _
end Go.Proofs.Ytnldlbglgalbaab

namespace Go.Proofs.Ytnldlbglgalbaab
open Go.RowKit
set_option maxRecDepth 100000 in
set_option maxHeartbeats 4000000 in
theorem sPure8 (a : Vu) (m : List Pq) (A A2 : Option Addr) (c c2 B : Nat) (w : World) (hin : Vu.E.LIn w B A c [a]) (hl : Pq.E.LIn w B A2 c2 m) (hB : B ≤ w.heap.size) (oa : a.ok m.length = true)   :
    Calls Try.prog 18 #[.int .i64 8, .slice A 1 c, .slice A2 m.length c2] w fun e w' => e = .returned (ansV (outP 8 (rawP 8 [a] m))) ∧ Below w.heap.size w w' := by
  obtain ⟨V, hV⟩ : ∃ V, V = outP 8 (rawP 8 [a] m) := ⟨_, rfl⟩
  rw [← hV]
  obtain ⟨ab, ao, rfl, hab, a0, a1, a2, _⟩ := Vu.at_ hin (i := 0) (x := a) rfl
  simp only [Nat.zero_mul, Nat.add_zero] at a0 a1 a2
  obtain ⟨X, hX⟩ : ∃ X, X = (a.k == 1) := ⟨_, rfl⟩
  obtain ⟨cc, hcc⟩ : ∃ cc : Int, cc = (if X = true then 1 else 0) := ⟨_, rfl⟩
  have e0 : rawP 8 [a] m = some (.boo (a.k == 1)) := rfl
  have HQ : Hid (V = (⟨2, cc, ⟨#[]⟩⟩, ⟨#[]⟩)) := by rw [hcc, hX]; exact hV.trans (by rw [e0]; exact out_boo _ _)
  have HB : Hid (∀ u, Calls Try.prog 34 #[.bool X] u fun e w' => e = .returned (.agg #[.int .i64 2, .int .i64 cc, .string ⟨#[]⟩]) ∧ Below u.heap.size u w') := fun u => by rw [hcc]; exact l8Bool_any X u
  clear e0 hV oa  hcc
  rw [hX] at HB
  clear hX
  obtain ⟨W1, hW1⟩ : ∃ W1, W1 = w.alloc (.cells #[.int .i64 0, .int .i64 0, .string ⟨#[]⟩] 27) := ⟨_, rfl⟩
  have B1 : Below w.heap.size w W1 := by rw [hW1]; exact (Below.refl _ _).alloc (Nat.le_refl _) _
  have z1 : w.heap.size < W1.heap.size := by rw [hW1]; simp
  have R0 : D.Blk W1 w.heap.size 27 #[.int .i64 0, .int .i64 0, .string ⟨#[]⟩] := by rw [hW1]; exact D.Blk.new _ _ _
  have a0 := (B1.cell (p := ⟨ab, ao, none⟩) (show ab < _ by omega)).trans a0
  have a1 := (B1.cell (p := ⟨ab, ao + 1, none⟩) (show ab < _ by omega)).trans a1
  have a2 := (B1.cell (p := ⟨ab, ao + 2, none⟩) (show ab < _ by omega)).trans a2
  have la : ab < W1.heap.size := by omega
  go_enter Try.func18, Try.ntmps18
  go_upto_region 1 with fail
  rw [← hW1]
  clear hW1
  go_wp2_with fail
  (with_reducible refine (sprimN_x W1).mono ?_)
  rintro e w2 ⟨rfl, hn2, hb2⟩
  have n0 : World.cell? w2 ⟨W1.heap.size, 8, none⟩ = some (.string ⟨#[110, 117, 108, 108, 63]⟩) := hn2.cell 8
  clear hn2
  have z2 := hb2.size
  have R2 := R0.below hb2 z1
  have a0 := (hb2.cell (p := ⟨ab, ao, none⟩) la).trans a0
  have a1 := (hb2.cell (p := ⟨ab, ao + 1, none⟩) la).trans a1
  have a2 := (hb2.cell (p := ⟨ab, ao + 2, none⟩) la).trans a2
  go_upto_region 3 with fail
  obtain ⟨W4, hW4⟩ : ∃ W4, W4 = w2.alloc (.cells #[.int .i64 a.k, .int .i64 a.n, .string a.t] 27) := ⟨_, rfl⟩
  rw [← hW4]
  have h4 : Below w2.heap.size w2 W4 := by rw [hW4]; exact (Below.refl _ _).alloc (Nat.le_refl _) _
  have XV : Vu.Box W4 w2.heap.size a := by rw [hW4]; exact Vu.Box.new _ _ _
  clear hW4 n0
  obtain ⟨v0, v1, v2⟩ := XV
  have z4 := h4.size
  have R4 := R2.below h4 (by omega)
  have b4 : Below w.heap.size w W4 := B1.trans ((hb2.trans (h4.mono z2)).mono (by omega))
  have a0 := (h4.cell (p := ⟨ab, ao, none⟩) (show ab < _ by omega)).trans a0
  have a1 := (h4.cell (p := ⟨ab, ao + 1, none⟩) (show ab < _ by omega)).trans a1
  have a2 := (h4.cell (p := ⟨ab, ao + 2, none⟩) (show ab < _ by omega)).trans a2
  have r0 : World.cell? W4 ⟨w.heap.size, 0, none⟩ = some (.int .i64 0) := R4.cell 0
  have r1 : World.cell? W4 ⟨w.heap.size, 1, none⟩ = some (.int .i64 0) := R4.cell 1
  have r2 : World.cell? W4 ⟨w.heap.size, 2, none⟩ = some (.string ⟨#[]⟩) := R4.cell 2
  have g0 := R4.frozen 0
  have g1 := R4.frozen 1
  have g2 := R4.frozen 2
  go_wp2_with fail
  (with_reducible refine (HB.out W4).mono ?_)
  rintro e w6 ⟨rfl, hb6⟩
  have b6 := b4.trans (hb6.mono (by omega))
  have R6 := R4.below hb6 (by omega)
  have r0 : World.cell? w6 ⟨w.heap.size, 0, none⟩ = some (.int .i64 0) := R6.cell 0
  have r1 : World.cell? w6 ⟨w.heap.size, 1, none⟩ = some (.int .i64 0) := R6.cell 1
  have r2 : World.cell? w6 ⟨w.heap.size, 2, none⟩ = some (.string ⟨#[]⟩) := R6.cell 2
  have g0 := R6.frozen 0
  have g1 := R6.frozen 1
  have g2 := R6.frozen 2
  go_wp2_with fail
  refine bodyPost_ret (v := .tuple #[.agg #[.int .i64 2, .int .i64 cc, .string ⟨#[]⟩], .string ⟨#[]⟩]) (by simp [results, Try.results18, go_sem, r0, r1, r2]) rfl ⟨by rw [HQ.out]; rfl, ?_⟩
  exact ((b6.setCell (by simp) _).setCell (by simp) _).setCell (by simp) _
set_option maxRecDepth 100000 in
set_option maxHeartbeats 4000000 in
theorem sPure9 (a : Vu) (m : List Pq) (A A2 : Option Addr) (c c2 B : Nat) (w : World) (hin : Vu.E.LIn w B A c [a]) (hl : Pq.E.LIn w B A2 c2 m) (hB : B ≤ w.heap.size) (oa : a.ok m.length = true)   :
    Calls Try.prog 18 #[.int .i64 9, .slice A 1 c, .slice A2 m.length c2] w fun e w' => e = .returned (ansV (outP 9 (rawP 9 [a] m))) ∧ Below w.heap.size w w' := by
  obtain ⟨V, hV⟩ : ∃ V, V = outP 9 (rawP 9 [a] m) := ⟨_, rfl⟩
  rw [← hV]
  obtain ⟨ab, ao, rfl, hab, a0, a1, a2, _⟩ := Vu.at_ hin (i := 0) (x := a) rfl
  simp only [Nat.zero_mul, Nat.add_zero] at a0 a1 a2
  obtain ⟨X, hX⟩ : ∃ X, X = (a.k == 7) := ⟨_, rfl⟩
  obtain ⟨cc, hcc⟩ : ∃ cc : Int, cc = (if X = true then 1 else 0) := ⟨_, rfl⟩
  have e0 : rawP 9 [a] m = some (.boo (a.k == 7)) := rfl
  have HQ : Hid (V = (⟨2, cc, ⟨#[]⟩⟩, ⟨#[]⟩)) := by rw [hcc, hX]; exact hV.trans (by rw [e0]; exact out_boo _ _)
  have HB : Hid (∀ u, Calls Try.prog 34 #[.bool X] u fun e w' => e = .returned (.agg #[.int .i64 2, .int .i64 cc, .string ⟨#[]⟩]) ∧ Below u.heap.size u w') := fun u => by rw [hcc]; exact l8Bool_any X u
  clear e0 hV oa  hcc
  rw [hX] at HB
  clear hX
  obtain ⟨W1, hW1⟩ : ∃ W1, W1 = w.alloc (.cells #[.int .i64 0, .int .i64 0, .string ⟨#[]⟩] 27) := ⟨_, rfl⟩
  have B1 : Below w.heap.size w W1 := by rw [hW1]; exact (Below.refl _ _).alloc (Nat.le_refl _) _
  have z1 : w.heap.size < W1.heap.size := by rw [hW1]; simp
  have R0 : D.Blk W1 w.heap.size 27 #[.int .i64 0, .int .i64 0, .string ⟨#[]⟩] := by rw [hW1]; exact D.Blk.new _ _ _
  have a0 := (B1.cell (p := ⟨ab, ao, none⟩) (show ab < _ by omega)).trans a0
  have a1 := (B1.cell (p := ⟨ab, ao + 1, none⟩) (show ab < _ by omega)).trans a1
  have a2 := (B1.cell (p := ⟨ab, ao + 2, none⟩) (show ab < _ by omega)).trans a2
  have la : ab < W1.heap.size := by omega
  go_enter Try.func18, Try.ntmps18
  go_upto_region 1 with fail
  rw [← hW1]
  clear hW1
  go_wp2_with fail
  (with_reducible refine (sprimN_x W1).mono ?_)
  rintro e w2 ⟨rfl, hn2, hb2⟩
  have n0 : World.cell? w2 ⟨W1.heap.size, 9, none⟩ = some (.string ⟨#[112, 97, 105, 114, 63]⟩) := hn2.cell 9
  clear hn2
  have z2 := hb2.size
  have R2 := R0.below hb2 z1
  have a0 := (hb2.cell (p := ⟨ab, ao, none⟩) la).trans a0
  have a1 := (hb2.cell (p := ⟨ab, ao + 1, none⟩) la).trans a1
  have a2 := (hb2.cell (p := ⟨ab, ao + 2, none⟩) la).trans a2
  go_upto_region 3 with fail
  obtain ⟨W4, hW4⟩ : ∃ W4, W4 = w2.alloc (.cells #[.int .i64 a.k, .int .i64 a.n, .string a.t] 27) := ⟨_, rfl⟩
  rw [← hW4]
  have h4 : Below w2.heap.size w2 W4 := by rw [hW4]; exact (Below.refl _ _).alloc (Nat.le_refl _) _
  have XV : Vu.Box W4 w2.heap.size a := by rw [hW4]; exact Vu.Box.new _ _ _
  clear hW4 n0
  obtain ⟨v0, v1, v2⟩ := XV
  have z4 := h4.size
  have R4 := R2.below h4 (by omega)
  have b4 : Below w.heap.size w W4 := B1.trans ((hb2.trans (h4.mono z2)).mono (by omega))
  have a0 := (h4.cell (p := ⟨ab, ao, none⟩) (show ab < _ by omega)).trans a0
  have a1 := (h4.cell (p := ⟨ab, ao + 1, none⟩) (show ab < _ by omega)).trans a1
  have a2 := (h4.cell (p := ⟨ab, ao + 2, none⟩) (show ab < _ by omega)).trans a2
  have r0 : World.cell? W4 ⟨w.heap.size, 0, none⟩ = some (.int .i64 0) := R4.cell 0
  have r1 : World.cell? W4 ⟨w.heap.size, 1, none⟩ = some (.int .i64 0) := R4.cell 1
  have r2 : World.cell? W4 ⟨w.heap.size, 2, none⟩ = some (.string ⟨#[]⟩) := R4.cell 2
  have g0 := R4.frozen 0
  have g1 := R4.frozen 1
  have g2 := R4.frozen 2
  go_wp2_with fail
  (with_reducible refine (HB.out W4).mono ?_)
  rintro e w6 ⟨rfl, hb6⟩
  have b6 := b4.trans (hb6.mono (by omega))
  have R6 := R4.below hb6 (by omega)
  have r0 : World.cell? w6 ⟨w.heap.size, 0, none⟩ = some (.int .i64 0) := R6.cell 0
  have r1 : World.cell? w6 ⟨w.heap.size, 1, none⟩ = some (.int .i64 0) := R6.cell 1
  have r2 : World.cell? w6 ⟨w.heap.size, 2, none⟩ = some (.string ⟨#[]⟩) := R6.cell 2
  have g0 := R6.frozen 0
  have g1 := R6.frozen 1
  have g2 := R6.frozen 2
  go_wp2_with fail
  refine bodyPost_ret (v := .tuple #[.agg #[.int .i64 2, .int .i64 cc, .string ⟨#[]⟩], .string ⟨#[]⟩]) (by simp [results, Try.results18, go_sem, r0, r1, r2]) rfl ⟨by rw [HQ.out]; rfl, ?_⟩
  exact ((b6.setCell (by simp) _).setCell (by simp) _).setCell (by simp) _
set_option maxRecDepth 100000 in
set_option maxHeartbeats 4000000 in
theorem sPure10 (a : Vu) (m : List Pq) (A A2 : Option Addr) (c c2 B : Nat) (w : World) (hin : Vu.E.LIn w B A c [a]) (hl : Pq.E.LIn w B A2 c2 m) (hB : B ≤ w.heap.size) (oa : a.ok m.length = true)   :
    Calls Try.prog 18 #[.int .i64 10, .slice A 1 c, .slice A2 m.length c2] w fun e w' => e = .returned (ansV (outP 10 (rawP 10 [a] m))) ∧ Below w.heap.size w w' := by
  obtain ⟨V, hV⟩ : ∃ V, V = outP 10 (rawP 10 [a] m) := ⟨_, rfl⟩
  rw [← hV]
  obtain ⟨ab, ao, rfl, hab, a0, a1, a2, _⟩ := Vu.at_ hin (i := 0) (x := a) rfl
  simp only [Nat.zero_mul, Nat.add_zero] at a0 a1 a2
  obtain ⟨X, hX⟩ : ∃ X, X = (a.k == 3) := ⟨_, rfl⟩
  obtain ⟨cc, hcc⟩ : ∃ cc : Int, cc = (if X = true then 1 else 0) := ⟨_, rfl⟩
  have e0 : rawP 10 [a] m = some (.boo (a.k == 3)) := rfl
  have HQ : Hid (V = (⟨2, cc, ⟨#[]⟩⟩, ⟨#[]⟩)) := by rw [hcc, hX]; exact hV.trans (by rw [e0]; exact out_boo _ _)
  have HB : Hid (∀ u, Calls Try.prog 34 #[.bool X] u fun e w' => e = .returned (.agg #[.int .i64 2, .int .i64 cc, .string ⟨#[]⟩]) ∧ Below u.heap.size u w') := fun u => by rw [hcc]; exact l8Bool_any X u
  clear e0 hV oa  hcc
  rw [hX] at HB
  clear hX
  obtain ⟨W1, hW1⟩ : ∃ W1, W1 = w.alloc (.cells #[.int .i64 0, .int .i64 0, .string ⟨#[]⟩] 27) := ⟨_, rfl⟩
  have B1 : Below w.heap.size w W1 := by rw [hW1]; exact (Below.refl _ _).alloc (Nat.le_refl _) _
  have z1 : w.heap.size < W1.heap.size := by rw [hW1]; simp
  have R0 : D.Blk W1 w.heap.size 27 #[.int .i64 0, .int .i64 0, .string ⟨#[]⟩] := by rw [hW1]; exact D.Blk.new _ _ _
  have a0 := (B1.cell (p := ⟨ab, ao, none⟩) (show ab < _ by omega)).trans a0
  have a1 := (B1.cell (p := ⟨ab, ao + 1, none⟩) (show ab < _ by omega)).trans a1
  have a2 := (B1.cell (p := ⟨ab, ao + 2, none⟩) (show ab < _ by omega)).trans a2
  have la : ab < W1.heap.size := by omega
  go_enter Try.func18, Try.ntmps18
  go_upto_region 1 with fail
  rw [← hW1]
  clear hW1
  go_wp2_with fail
  (with_reducible refine (sprimN_x W1).mono ?_)
  rintro e w2 ⟨rfl, hn2, hb2⟩
  have n0 : World.cell? w2 ⟨W1.heap.size, 10, none⟩ = some (.string ⟨#[110, 117, 109, 98, 101, 114, 63]⟩) := hn2.cell 10
  clear hn2
  have z2 := hb2.size
  have R2 := R0.below hb2 z1
  have a0 := (hb2.cell (p := ⟨ab, ao, none⟩) la).trans a0
  have a1 := (hb2.cell (p := ⟨ab, ao + 1, none⟩) la).trans a1
  have a2 := (hb2.cell (p := ⟨ab, ao + 2, none⟩) la).trans a2
  go_upto_region 3 with fail
  obtain ⟨W4, hW4⟩ : ∃ W4, W4 = w2.alloc (.cells #[.int .i64 a.k, .int .i64 a.n, .string a.t] 27) := ⟨_, rfl⟩
  rw [← hW4]
  have h4 : Below w2.heap.size w2 W4 := by rw [hW4]; exact (Below.refl _ _).alloc (Nat.le_refl _) _
  have XV : Vu.Box W4 w2.heap.size a := by rw [hW4]; exact Vu.Box.new _ _ _
  clear hW4 n0
  obtain ⟨v0, v1, v2⟩ := XV
  have z4 := h4.size
  have R4 := R2.below h4 (by omega)
  have b4 : Below w.heap.size w W4 := B1.trans ((hb2.trans (h4.mono z2)).mono (by omega))
  have a0 := (h4.cell (p := ⟨ab, ao, none⟩) (show ab < _ by omega)).trans a0
  have a1 := (h4.cell (p := ⟨ab, ao + 1, none⟩) (show ab < _ by omega)).trans a1
  have a2 := (h4.cell (p := ⟨ab, ao + 2, none⟩) (show ab < _ by omega)).trans a2
  have r0 : World.cell? W4 ⟨w.heap.size, 0, none⟩ = some (.int .i64 0) := R4.cell 0
  have r1 : World.cell? W4 ⟨w.heap.size, 1, none⟩ = some (.int .i64 0) := R4.cell 1
  have r2 : World.cell? W4 ⟨w.heap.size, 2, none⟩ = some (.string ⟨#[]⟩) := R4.cell 2
  have g0 := R4.frozen 0
  have g1 := R4.frozen 1
  have g2 := R4.frozen 2
  go_wp2_with fail
  (with_reducible refine (HB.out W4).mono ?_)
  rintro e w6 ⟨rfl, hb6⟩
  have b6 := b4.trans (hb6.mono (by omega))
  have R6 := R4.below hb6 (by omega)
  have r0 : World.cell? w6 ⟨w.heap.size, 0, none⟩ = some (.int .i64 0) := R6.cell 0
  have r1 : World.cell? w6 ⟨w.heap.size, 1, none⟩ = some (.int .i64 0) := R6.cell 1
  have r2 : World.cell? w6 ⟨w.heap.size, 2, none⟩ = some (.string ⟨#[]⟩) := R6.cell 2
  have g0 := R6.frozen 0
  have g1 := R6.frozen 1
  have g2 := R6.frozen 2
  go_wp2_with fail
  refine bodyPost_ret (v := .tuple #[.agg #[.int .i64 2, .int .i64 cc, .string ⟨#[]⟩], .string ⟨#[]⟩]) (by simp [results, Try.results18, go_sem, r0, r1, r2]) rfl ⟨by rw [HQ.out]; rfl, ?_⟩
  exact ((b6.setCell (by simp) _).setCell (by simp) _).setCell (by simp) _
set_option maxRecDepth 100000 in
set_option maxHeartbeats 4000000 in
theorem sPure11 (a b : Vu) (m : List Pq) (A A2 : Option Addr) (c c2 B : Nat) (w : World) (hin : Vu.E.LIn w B A c [a, b]) (hl : Pq.E.LIn w B A2 c2 m) (hB : B ≤ w.heap.size) (oa : a.ok m.length = true) (ob : b.ok m.length = true)  :
    Calls Try.prog 18 #[.int .i64 11, .slice A 2 c, .slice A2 m.length c2] w fun e w' => e = .returned (ansV (outP 11 (rawP 11 [a, b] m))) ∧ Below w.heap.size w w' := by
  obtain ⟨V, hV⟩ : ∃ V, V = outP 11 (rawP 11 [a, b] m) := ⟨_, rfl⟩
  rw [← hV]
  obtain ⟨ab, ao, rfl, hab, a0, a1, a2, _⟩ := Vu.at_ hin (i := 0) (x := a) rfl
  obtain ⟨ab2, ao2, e2, _, d0, d1, d2, _⟩ := Vu.at_ hin (i := 1) (x := b) rfl
  simp only [Option.some.injEq, Addr.mk.injEq] at e2
  obtain ⟨rfl, rfl, _⟩ := e2
  simp only [Nat.zero_mul, Nat.one_mul, Nat.add_zero] at a0 a1 a2 d0 d1 d2
  obtain ⟨X, hX⟩ : ∃ X, X = (a.k == b.k && (a.n == b.n && a.t.toList == b.t.toList)) := ⟨_, rfl⟩
  obtain ⟨cc, hcc⟩ : ∃ cc : Int, cc = (if X = true then 1 else 0) := ⟨_, rfl⟩
  have e0 : rawP 11 [a, b] m = some (.boo (a.k == b.k && (a.n == b.n && a.t.toList == b.t.toList))) := rfl
  have HQ : Hid (V = (⟨2, cc, ⟨#[]⟩⟩, ⟨#[]⟩)) := by rw [hcc, hX]; exact hV.trans (by rw [e0]; exact out_boo _ _)
  have HB : Hid (∀ u, Calls Try.prog 34 #[.bool X] u fun e w' => e = .returned (.agg #[.int .i64 2, .int .i64 cc, .string ⟨#[]⟩]) ∧ Below u.heap.size u w') := fun u => by rw [hcc]; exact l8Bool_any X u
  clear e0 hV oa ob hcc
  obtain ⟨W1, hW1⟩ : ∃ W1, W1 = w.alloc (.cells #[.int .i64 0, .int .i64 0, .string ⟨#[]⟩] 27) := ⟨_, rfl⟩
  have B1 : Below w.heap.size w W1 := by rw [hW1]; exact (Below.refl _ _).alloc (Nat.le_refl _) _
  have z1 : w.heap.size < W1.heap.size := by rw [hW1]; simp
  have R0 : D.Blk W1 w.heap.size 27 #[.int .i64 0, .int .i64 0, .string ⟨#[]⟩] := by rw [hW1]; exact D.Blk.new _ _ _
  have a0 := (B1.cell (p := ⟨ab, ao, none⟩) (show ab < _ by omega)).trans a0
  have a1 := (B1.cell (p := ⟨ab, ao + 1, none⟩) (show ab < _ by omega)).trans a1
  have a2 := (B1.cell (p := ⟨ab, ao + 2, none⟩) (show ab < _ by omega)).trans a2
  have d0 := (B1.cell (p := ⟨ab, ao + 3, none⟩) (show ab < _ by omega)).trans d0
  have d1 := (B1.cell (p := ⟨ab, ao + 3 + 1, none⟩) (show ab < _ by omega)).trans d1
  have d2 := (B1.cell (p := ⟨ab, ao + 3 + 2, none⟩) (show ab < _ by omega)).trans d2
  have la : ab < W1.heap.size := by omega
  cases q1 : (a.k == b.k)
  · obtain rfl : X = false := by rw [hX, q1]; rfl
    clear hX
    go_enter Try.func18, Try.ntmps18
    go_upto_region 1 with fail
    rw [← hW1]
    clear hW1
    go_wp2_with fail
    (with_reducible refine (sprimN_x W1).mono ?_)
    rintro e w2 ⟨rfl, hn2, hb2⟩
    have n0 : World.cell? w2 ⟨W1.heap.size, 11, none⟩ = some (.string ⟨#[101, 113, 63]⟩) := hn2.cell 11
    clear hn2
    have z2 := hb2.size
    have R2 := R0.below hb2 z1
    have a0 := (hb2.cell (p := ⟨ab, ao, none⟩) la).trans a0
    have a1 := (hb2.cell (p := ⟨ab, ao + 1, none⟩) la).trans a1
    have a2 := (hb2.cell (p := ⟨ab, ao + 2, none⟩) la).trans a2
    have d0 := (hb2.cell (p := ⟨ab, ao + 3, none⟩) la).trans d0
    have d1 := (hb2.cell (p := ⟨ab, ao + 3 + 1, none⟩) la).trans d1
    have d2 := (hb2.cell (p := ⟨ab, ao + 3 + 2, none⟩) la).trans d2
    go_upto_region 3 with fail
    obtain ⟨W4, hW4⟩ : ∃ W4, W4 = w2.alloc (.cells #[.int .i64 a.k, .int .i64 a.n, .string a.t] 27) := ⟨_, rfl⟩
    rw [← hW4]
    have h4 : Below w2.heap.size w2 W4 := by rw [hW4]; exact (Below.refl _ _).alloc (Nat.le_refl _) _
    have XV : Vu.Box W4 w2.heap.size a := by rw [hW4]; exact Vu.Box.new _ _ _
    clear hW4 n0
    obtain ⟨v0, v1, v2⟩ := XV
    have z4 := h4.size
    have R4 := R2.below h4 (by omega)
    have b4 : Below w.heap.size w W4 := B1.trans ((hb2.trans (h4.mono z2)).mono (by omega))
    have a0 := (h4.cell (p := ⟨ab, ao, none⟩) (show ab < _ by omega)).trans a0
    have a1 := (h4.cell (p := ⟨ab, ao + 1, none⟩) (show ab < _ by omega)).trans a1
    have a2 := (h4.cell (p := ⟨ab, ao + 2, none⟩) (show ab < _ by omega)).trans a2
    have d0 := (h4.cell (p := ⟨ab, ao + 3, none⟩) (show ab < _ by omega)).trans d0
    have d1 := (h4.cell (p := ⟨ab, ao + 3 + 1, none⟩) (show ab < _ by omega)).trans d1
    have d2 := (h4.cell (p := ⟨ab, ao + 3 + 2, none⟩) (show ab < _ by omega)).trans d2
    have r0 : World.cell? W4 ⟨w.heap.size, 0, none⟩ = some (.int .i64 0) := R4.cell 0
    have r1 : World.cell? W4 ⟨w.heap.size, 1, none⟩ = some (.int .i64 0) := R4.cell 1
    have r2 : World.cell? W4 ⟨w.heap.size, 2, none⟩ = some (.string ⟨#[]⟩) := R4.cell 2
    have g0 := R4.frozen 0
    have g1 := R4.frozen 1
    have g2 := R4.frozen 2
    go_wp2_with fail
    go_region_with (first | (go_at_call 34; (with_reducible refine (HB.out _).mono ?_); rintro e w5 ⟨rfl, hb5⟩; have hb6 : Below W4.heap.size W4 w5 := below_undrew hb5; have R5 := R4.below hb6 (by omega); have r0 : World.cell? w5 ⟨w.heap.size, 0, none⟩ = some (.int .i64 0) := R5.cell 0; have r1 : World.cell? w5 ⟨w.heap.size, 1, none⟩ = some (.int .i64 0) := R5.cell 1; have r2 : World.cell? w5 ⟨w.heap.size, 2, none⟩ = some (.string ⟨#[]⟩) := R5.cell 2; have g0 := R5.frozen 0; have g1 := R5.frozen 1; have g2 := R5.frozen 2))
    all_goals go_wp2_with fail
    all_goals (have b5 := b4.trans (hb6.mono (by omega)))
    all_goals refine bodyPost_ret (v := .tuple #[.agg #[.int .i64 2, .int .i64 cc, .string ⟨#[]⟩], .string ⟨#[]⟩]) (by simp [results, Try.results18, go_sem, r0, r1, r2]) rfl ⟨by rw [HQ.out]; rfl, ?_⟩
    all_goals exact ((b5.setCell (by simp) _).setCell (by simp) _).setCell (by simp) _
  cases q2 : (a.n == b.n)
  · obtain rfl : X = false := by rw [hX, q1, q2]; rfl
    clear hX
    go_enter Try.func18, Try.ntmps18
    go_upto_region 1 with fail
    rw [← hW1]
    clear hW1
    go_wp2_with fail
    (with_reducible refine (sprimN_x W1).mono ?_)
    rintro e w2 ⟨rfl, hn2, hb2⟩
    have n0 : World.cell? w2 ⟨W1.heap.size, 11, none⟩ = some (.string ⟨#[101, 113, 63]⟩) := hn2.cell 11
    clear hn2
    have z2 := hb2.size
    have R2 := R0.below hb2 z1
    have a0 := (hb2.cell (p := ⟨ab, ao, none⟩) la).trans a0
    have a1 := (hb2.cell (p := ⟨ab, ao + 1, none⟩) la).trans a1
    have a2 := (hb2.cell (p := ⟨ab, ao + 2, none⟩) la).trans a2
    have d0 := (hb2.cell (p := ⟨ab, ao + 3, none⟩) la).trans d0
    have d1 := (hb2.cell (p := ⟨ab, ao + 3 + 1, none⟩) la).trans d1
    have d2 := (hb2.cell (p := ⟨ab, ao + 3 + 2, none⟩) la).trans d2
    go_upto_region 3 with fail
    obtain ⟨W4, hW4⟩ : ∃ W4, W4 = w2.alloc (.cells #[.int .i64 a.k, .int .i64 a.n, .string a.t] 27) := ⟨_, rfl⟩
    rw [← hW4]
    have h4 : Below w2.heap.size w2 W4 := by rw [hW4]; exact (Below.refl _ _).alloc (Nat.le_refl _) _
    have XV : Vu.Box W4 w2.heap.size a := by rw [hW4]; exact Vu.Box.new _ _ _
    clear hW4 n0
    obtain ⟨v0, v1, v2⟩ := XV
    have z4 := h4.size
    have R4 := R2.below h4 (by omega)
    have b4 : Below w.heap.size w W4 := B1.trans ((hb2.trans (h4.mono z2)).mono (by omega))
    have a0 := (h4.cell (p := ⟨ab, ao, none⟩) (show ab < _ by omega)).trans a0
    have a1 := (h4.cell (p := ⟨ab, ao + 1, none⟩) (show ab < _ by omega)).trans a1
    have a2 := (h4.cell (p := ⟨ab, ao + 2, none⟩) (show ab < _ by omega)).trans a2
    have d0 := (h4.cell (p := ⟨ab, ao + 3, none⟩) (show ab < _ by omega)).trans d0
    have d1 := (h4.cell (p := ⟨ab, ao + 3 + 1, none⟩) (show ab < _ by omega)).trans d1
    have d2 := (h4.cell (p := ⟨ab, ao + 3 + 2, none⟩) (show ab < _ by omega)).trans d2
    have r0 : World.cell? W4 ⟨w.heap.size, 0, none⟩ = some (.int .i64 0) := R4.cell 0
    have r1 : World.cell? W4 ⟨w.heap.size, 1, none⟩ = some (.int .i64 0) := R4.cell 1
    have r2 : World.cell? W4 ⟨w.heap.size, 2, none⟩ = some (.string ⟨#[]⟩) := R4.cell 2
    have g0 := R4.frozen 0
    have g1 := R4.frozen 1
    have g2 := R4.frozen 2
    go_wp2_with fail
    go_region_with (first | (go_at_call 34; (with_reducible refine (HB.out _).mono ?_); rintro e w5 ⟨rfl, hb5⟩; have hb6 : Below W4.heap.size W4 w5 := below_undrew hb5; have R5 := R4.below hb6 (by omega); have r0 : World.cell? w5 ⟨w.heap.size, 0, none⟩ = some (.int .i64 0) := R5.cell 0; have r1 : World.cell? w5 ⟨w.heap.size, 1, none⟩ = some (.int .i64 0) := R5.cell 1; have r2 : World.cell? w5 ⟨w.heap.size, 2, none⟩ = some (.string ⟨#[]⟩) := R5.cell 2; have g0 := R5.frozen 0; have g1 := R5.frozen 1; have g2 := R5.frozen 2))
    all_goals go_wp2_with fail
    all_goals (have b5 := b4.trans (hb6.mono (by omega)))
    all_goals refine bodyPost_ret (v := .tuple #[.agg #[.int .i64 2, .int .i64 cc, .string ⟨#[]⟩], .string ⟨#[]⟩]) (by simp [results, Try.results18, go_sem, r0, r1, r2]) rfl ⟨by rw [HQ.out]; rfl, ?_⟩
    all_goals exact ((b5.setCell (by simp) _).setCell (by simp) _).setCell (by simp) _
  cases q3 : (a.t.toList == b.t.toList)
  · obtain rfl : X = false := by rw [hX, q1, q2, q3]; rfl
    clear hX
    go_enter Try.func18, Try.ntmps18
    go_upto_region 1 with fail
    rw [← hW1]
    clear hW1
    go_wp2_with fail
    (with_reducible refine (sprimN_x W1).mono ?_)
    rintro e w2 ⟨rfl, hn2, hb2⟩
    have n0 : World.cell? w2 ⟨W1.heap.size, 11, none⟩ = some (.string ⟨#[101, 113, 63]⟩) := hn2.cell 11
    clear hn2
    have z2 := hb2.size
    have R2 := R0.below hb2 z1
    have a0 := (hb2.cell (p := ⟨ab, ao, none⟩) la).trans a0
    have a1 := (hb2.cell (p := ⟨ab, ao + 1, none⟩) la).trans a1
    have a2 := (hb2.cell (p := ⟨ab, ao + 2, none⟩) la).trans a2
    have d0 := (hb2.cell (p := ⟨ab, ao + 3, none⟩) la).trans d0
    have d1 := (hb2.cell (p := ⟨ab, ao + 3 + 1, none⟩) la).trans d1
    have d2 := (hb2.cell (p := ⟨ab, ao + 3 + 2, none⟩) la).trans d2
    go_upto_region 3 with fail
    obtain ⟨W4, hW4⟩ : ∃ W4, W4 = w2.alloc (.cells #[.int .i64 a.k, .int .i64 a.n, .string a.t] 27) := ⟨_, rfl⟩
    rw [← hW4]
    have h4 : Below w2.heap.size w2 W4 := by rw [hW4]; exact (Below.refl _ _).alloc (Nat.le_refl _) _
    have XV : Vu.Box W4 w2.heap.size a := by rw [hW4]; exact Vu.Box.new _ _ _
    clear hW4 n0
    obtain ⟨v0, v1, v2⟩ := XV
    have z4 := h4.size
    have R4 := R2.below h4 (by omega)
    have b4 : Below w.heap.size w W4 := B1.trans ((hb2.trans (h4.mono z2)).mono (by omega))
    have a0 := (h4.cell (p := ⟨ab, ao, none⟩) (show ab < _ by omega)).trans a0
    have a1 := (h4.cell (p := ⟨ab, ao + 1, none⟩) (show ab < _ by omega)).trans a1
    have a2 := (h4.cell (p := ⟨ab, ao + 2, none⟩) (show ab < _ by omega)).trans a2
    have d0 := (h4.cell (p := ⟨ab, ao + 3, none⟩) (show ab < _ by omega)).trans d0
    have d1 := (h4.cell (p := ⟨ab, ao + 3 + 1, none⟩) (show ab < _ by omega)).trans d1
    have d2 := (h4.cell (p := ⟨ab, ao + 3 + 2, none⟩) (show ab < _ by omega)).trans d2
    have r0 : World.cell? W4 ⟨w.heap.size, 0, none⟩ = some (.int .i64 0) := R4.cell 0
    have r1 : World.cell? W4 ⟨w.heap.size, 1, none⟩ = some (.int .i64 0) := R4.cell 1
    have r2 : World.cell? W4 ⟨w.heap.size, 2, none⟩ = some (.string ⟨#[]⟩) := R4.cell 2
    have g0 := R4.frozen 0
    have g1 := R4.frozen 1
    have g2 := R4.frozen 2
    go_wp2_with fail
    go_region_with (first | (go_at_call 34; (with_reducible refine (HB.out _).mono ?_); rintro e w5 ⟨rfl, hb5⟩; have hb6 : Below W4.heap.size W4 w5 := below_undrew hb5; have R5 := R4.below hb6 (by omega); have r0 : World.cell? w5 ⟨w.heap.size, 0, none⟩ = some (.int .i64 0) := R5.cell 0; have r1 : World.cell? w5 ⟨w.heap.size, 1, none⟩ = some (.int .i64 0) := R5.cell 1; have r2 : World.cell? w5 ⟨w.heap.size, 2, none⟩ = some (.string ⟨#[]⟩) := R5.cell 2; have g0 := R5.frozen 0; have g1 := R5.frozen 1; have g2 := R5.frozen 2))
    all_goals go_wp2_with fail
    all_goals (have b5 := b4.trans (hb6.mono (by omega)))
    all_goals refine bodyPost_ret (v := .tuple #[.agg #[.int .i64 2, .int .i64 cc, .string ⟨#[]⟩], .string ⟨#[]⟩]) (by simp [results, Try.results18, go_sem, r0, r1, r2]) rfl ⟨by rw [HQ.out]; rfl, ?_⟩
    all_goals exact ((b5.setCell (by simp) _).setCell (by simp) _).setCell (by simp) _
  · obtain rfl : X = true := by rw [hX, q1, q2, q3]; rfl
    clear hX
    go_enter Try.func18, Try.ntmps18
    go_upto_region 1 with fail
    rw [← hW1]
    clear hW1
    go_wp2_with fail
    (with_reducible refine (sprimN_x W1).mono ?_)
    rintro e w2 ⟨rfl, hn2, hb2⟩
    have n0 : World.cell? w2 ⟨W1.heap.size, 11, none⟩ = some (.string ⟨#[101, 113, 63]⟩) := hn2.cell 11
    clear hn2
    have z2 := hb2.size
    have R2 := R0.below hb2 z1
    have a0 := (hb2.cell (p := ⟨ab, ao, none⟩) la).trans a0
    have a1 := (hb2.cell (p := ⟨ab, ao + 1, none⟩) la).trans a1
    have a2 := (hb2.cell (p := ⟨ab, ao + 2, none⟩) la).trans a2
    have d0 := (hb2.cell (p := ⟨ab, ao + 3, none⟩) la).trans d0
    have d1 := (hb2.cell (p := ⟨ab, ao + 3 + 1, none⟩) la).trans d1
    have d2 := (hb2.cell (p := ⟨ab, ao + 3 + 2, none⟩) la).trans d2
    go_upto_region 3 with fail
    obtain ⟨W4, hW4⟩ : ∃ W4, W4 = w2.alloc (.cells #[.int .i64 a.k, .int .i64 a.n, .string a.t] 27) := ⟨_, rfl⟩
    rw [← hW4]
    have h4 : Below w2.heap.size w2 W4 := by rw [hW4]; exact (Below.refl _ _).alloc (Nat.le_refl _) _
    have XV : Vu.Box W4 w2.heap.size a := by rw [hW4]; exact Vu.Box.new _ _ _
    clear hW4 n0
    obtain ⟨v0, v1, v2⟩ := XV
    have z4 := h4.size
    have R4 := R2.below h4 (by omega)
    have b4 : Below w.heap.size w W4 := B1.trans ((hb2.trans (h4.mono z2)).mono (by omega))
    have a0 := (h4.cell (p := ⟨ab, ao, none⟩) (show ab < _ by omega)).trans a0
    have a1 := (h4.cell (p := ⟨ab, ao + 1, none⟩) (show ab < _ by omega)).trans a1
    have a2 := (h4.cell (p := ⟨ab, ao + 2, none⟩) (show ab < _ by omega)).trans a2
    have d0 := (h4.cell (p := ⟨ab, ao + 3, none⟩) (show ab < _ by omega)).trans d0
    have d1 := (h4.cell (p := ⟨ab, ao + 3 + 1, none⟩) (show ab < _ by omega)).trans d1
    have d2 := (h4.cell (p := ⟨ab, ao + 3 + 2, none⟩) (show ab < _ by omega)).trans d2
    have r0 : World.cell? W4 ⟨w.heap.size, 0, none⟩ = some (.int .i64 0) := R4.cell 0
    have r1 : World.cell? W4 ⟨w.heap.size, 1, none⟩ = some (.int .i64 0) := R4.cell 1
    have r2 : World.cell? W4 ⟨w.heap.size, 2, none⟩ = some (.string ⟨#[]⟩) := R4.cell 2
    have g0 := R4.frozen 0
    have g1 := R4.frozen 1
    have g2 := R4.frozen 2
    go_wp2_with fail
    go_region_with (first | (go_at_call 34; (with_reducible refine (HB.out _).mono ?_); rintro e w5 ⟨rfl, hb5⟩; have hb6 : Below W4.heap.size W4 w5 := below_undrew hb5; have R5 := R4.below hb6 (by omega); have r0 : World.cell? w5 ⟨w.heap.size, 0, none⟩ = some (.int .i64 0) := R5.cell 0; have r1 : World.cell? w5 ⟨w.heap.size, 1, none⟩ = some (.int .i64 0) := R5.cell 1; have r2 : World.cell? w5 ⟨w.heap.size, 2, none⟩ = some (.string ⟨#[]⟩) := R5.cell 2; have g0 := R5.frozen 0; have g1 := R5.frozen 1; have g2 := R5.frozen 2))
    all_goals go_wp2_with fail
    all_goals (have b5 := b4.trans (hb6.mono (by omega)))
    all_goals refine bodyPost_ret (v := .tuple #[.agg #[.int .i64 2, .int .i64 cc, .string ⟨#[]⟩], .string ⟨#[]⟩]) (by simp [results, Try.results18, go_sem, r0, r1, r2]) rfl ⟨by rw [HQ.out]; rfl, ?_⟩
    all_goals exact ((b5.setCell (by simp) _).setCell (by simp) _).setCell (by simp) _
set_option maxRecDepth 100000 in
set_option maxHeartbeats 4000000 in
theorem sPure12 (a : Vu) (m : List Pq) (A A2 : Option Addr) (c c2 B : Nat) (w : World) (hin : Vu.E.LIn w B A c [a]) (hl : Pq.E.LIn w B A2 c2 m) (hB : B ≤ w.heap.size) (oa : a.ok m.length = true)   :
    Calls Try.prog 18 #[.int .i64 12, .slice A 1 c, .slice A2 m.length c2] w fun e w' => e = .returned (ansV (outP 12 (rawP 12 [a] m))) ∧ Below w.heap.size w w' := by
  obtain ⟨V, hV⟩ : ∃ V, V = outP 12 (rawP 12 [a] m) := ⟨_, rfl⟩
  rw [← hV]
  obtain ⟨ab, ao, rfl, hab, a0, a1, a2, _⟩ := Vu.at_ hin (i := 0) (x := a) rfl
  simp only [Nat.zero_mul, Nat.add_zero] at a0 a1 a2
  obtain ⟨X, hX⟩ : ∃ X, X = (a.k == 2 && a.n == 0) := ⟨_, rfl⟩
  obtain ⟨cc, hcc⟩ : ∃ cc : Int, cc = (if X = true then 1 else 0) := ⟨_, rfl⟩
  have e0 : rawP 12 [a] m = some (.boo (a.k == 2 && (a.n == 0 && a.t.toList == []))) := rfl
  have HQ : Hid (V = (⟨2, cc, ⟨#[]⟩⟩, ⟨#[]⟩)) := by rw [hcc, hX]; exact hV.trans (by rw [e0, Vu.false_text oa]; exact out_boo _ _)
  have HB : Hid (∀ u, Calls Try.prog 34 #[.bool X] u fun e w' => e = .returned (.agg #[.int .i64 2, .int .i64 cc, .string ⟨#[]⟩]) ∧ Below u.heap.size u w') := fun u => by rw [hcc]; exact l8Bool_any X u
  clear e0 hV oa  hcc
  have HF : Hid (∀ u, Calls Try.prog 35 #[.agg #[.int .i64 a.k, .int .i64 a.n, .string a.t]] u fun e w' => e = .returned (.bool X) ∧ Below u.heap.size u w') := fun u => by rw [hX]; exact l8False_any a u
  clear hX
  obtain ⟨W1, hW1⟩ : ∃ W1, W1 = w.alloc (.cells #[.int .i64 0, .int .i64 0, .string ⟨#[]⟩] 27) := ⟨_, rfl⟩
  have B1 : Below w.heap.size w W1 := by rw [hW1]; exact (Below.refl _ _).alloc (Nat.le_refl _) _
  have z1 : w.heap.size < W1.heap.size := by rw [hW1]; simp
  have R0 : D.Blk W1 w.heap.size 27 #[.int .i64 0, .int .i64 0, .string ⟨#[]⟩] := by rw [hW1]; exact D.Blk.new _ _ _
  have a0 := (B1.cell (p := ⟨ab, ao, none⟩) (show ab < _ by omega)).trans a0
  have a1 := (B1.cell (p := ⟨ab, ao + 1, none⟩) (show ab < _ by omega)).trans a1
  have a2 := (B1.cell (p := ⟨ab, ao + 2, none⟩) (show ab < _ by omega)).trans a2
  have la : ab < W1.heap.size := by omega
  go_enter Try.func18, Try.ntmps18
  go_upto_region 1 with fail
  rw [← hW1]
  clear hW1
  go_wp2_with fail
  (with_reducible refine (sprimN_x W1).mono ?_)
  rintro e w2 ⟨rfl, hn2, hb2⟩
  have n0 : World.cell? w2 ⟨W1.heap.size, 12, none⟩ = some (.string ⟨#[110, 111, 116]⟩) := hn2.cell 12
  clear hn2
  have z2 := hb2.size
  have R2 := R0.below hb2 z1
  have a0 := (hb2.cell (p := ⟨ab, ao, none⟩) la).trans a0
  have a1 := (hb2.cell (p := ⟨ab, ao + 1, none⟩) la).trans a1
  have a2 := (hb2.cell (p := ⟨ab, ao + 2, none⟩) la).trans a2
  go_upto_region 3 with fail
  obtain ⟨W4, hW4⟩ : ∃ W4, W4 = w2.alloc (.cells #[.int .i64 a.k, .int .i64 a.n, .string a.t] 27) := ⟨_, rfl⟩
  rw [← hW4]
  have h4 : Below w2.heap.size w2 W4 := by rw [hW4]; exact (Below.refl _ _).alloc (Nat.le_refl _) _
  have XV : Vu.Box W4 w2.heap.size a := by rw [hW4]; exact Vu.Box.new _ _ _
  clear hW4 n0
  obtain ⟨v0, v1, v2⟩ := XV
  have z4 := h4.size
  have R4 := R2.below h4 (by omega)
  have b4 : Below w.heap.size w W4 := B1.trans ((hb2.trans (h4.mono z2)).mono (by omega))
  have a0 := (h4.cell (p := ⟨ab, ao, none⟩) (show ab < _ by omega)).trans a0
  have a1 := (h4.cell (p := ⟨ab, ao + 1, none⟩) (show ab < _ by omega)).trans a1
  have a2 := (h4.cell (p := ⟨ab, ao + 2, none⟩) (show ab < _ by omega)).trans a2
  have r0 : World.cell? W4 ⟨w.heap.size, 0, none⟩ = some (.int .i64 0) := R4.cell 0
  have r1 : World.cell? W4 ⟨w.heap.size, 1, none⟩ = some (.int .i64 0) := R4.cell 1
  have r2 : World.cell? W4 ⟨w.heap.size, 2, none⟩ = some (.string ⟨#[]⟩) := R4.cell 2
  have g0 := R4.frozen 0
  have g1 := R4.frozen 1
  have g2 := R4.frozen 2
  go_wp2_with fail
  (with_reducible refine (HF.out _).mono ?_)
  rintro e w5 ⟨rfl, hb5⟩
  have b5 := b4.trans (hb5.mono (by omega))
  have z5 := hb5.size
  have R5 := R4.below hb5 (by omega)
  clear r0 r1 r2 g0 g1 g2
  go_wp2_with fail
  (with_reducible refine (HB.out w5).mono ?_)
  rintro e w6 ⟨rfl, hb6⟩
  have b6 := b5.trans (hb6.mono (by omega))
  have R6 := R5.below hb6 (by omega)
  have r0 : World.cell? w6 ⟨w.heap.size, 0, none⟩ = some (.int .i64 0) := R6.cell 0
  have r1 : World.cell? w6 ⟨w.heap.size, 1, none⟩ = some (.int .i64 0) := R6.cell 1
  have r2 : World.cell? w6 ⟨w.heap.size, 2, none⟩ = some (.string ⟨#[]⟩) := R6.cell 2
  have g0 := R6.frozen 0
  have g1 := R6.frozen 1
  have g2 := R6.frozen 2
  go_wp2_with fail
  refine bodyPost_ret (v := .tuple #[.agg #[.int .i64 2, .int .i64 cc, .string ⟨#[]⟩], .string ⟨#[]⟩]) (by simp [results, Try.results18, go_sem, r0, r1, r2]) rfl ⟨by rw [HQ.out]; rfl, ?_⟩
  exact ((b6.setCell (by simp) _).setCell (by simp) _).setCell (by simp) _
end Go.Proofs.Ytnldlbglgalbaab
