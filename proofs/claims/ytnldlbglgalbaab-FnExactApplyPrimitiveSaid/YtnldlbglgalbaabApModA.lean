/-
  The model's l8Apply (written by gen/app9.py).
-/
import Derived.Test.YtnldlbglgalbaabApI
namespace Go.Proofs.Ytnldlbglgalbaab
open Go.RowKit
set_option maxRecDepth 100000 in
set_option maxHeartbeats 4000000 in
theorem sPure0_nx (a b : Vu) (m : List Pq) (A A2 : Option Addr) (c c2 B : Nat) (w : World) (hin : Vu.E.LIn w B A c [a, b]) (hl : Pq.E.LIn w B A2 c2 m) (hB : B ≤ w.heap.size) (oa : a.ok m.length = true) (ob : b.ok m.length = true)  (hk : ¬ a.k = 3) :
    Calls Try.prog 18 #[.int .i64 0, .slice A 2 c, .slice A2 m.length c2] w fun e w' => e = .returned (ansV (outP 0 (rawP 0 [a, b] m))) ∧ Below w.heap.size w w' := by
  obtain ⟨V, hV⟩ : ∃ V, V = outP 0 (rawP 0 [a, b] m) := ⟨_, rfl⟩
  rw [← hV]
  obtain ⟨ab, ao, rfl, hab, a0, a1, a2, _⟩ := Vu.at_ hin (i := 0) (x := a) rfl
  obtain ⟨ab2, ao2, e2, _, d0, d1, d2, _⟩ := Vu.at_ hin (i := 1) (x := b) rfl
  simp only [Option.some.injEq, Addr.mk.injEq] at e2
  obtain ⟨rfl, rfl, _⟩ := e2
  simp only [Nat.zero_mul, Nat.one_mul, Nat.add_zero] at a0 a1 a2 d0 d1 d2
  have e0 : rawP 0 [a, b] m = none := by simp [rawP, hk]
  have HQ : Hid (V = (.zero, badP 0)) := hV.trans (by rw [e0]; rfl)
  have ek : (a.k != 3) = true := by simpa using hk
  clear hk e0 hV oa ob
  obtain ⟨W1, hW1⟩ : ∃ W1, W1 = w.alloc (.cells #[.int .i64 0, .int .i64 0, .string ⟨#[]⟩] 27) := ⟨_, rfl⟩
  have B1 : Below w.heap.size w W1 := by rw [hW1]; exact (Below.refl _ _).alloc (Nat.le_refl _) _
  have z1 : w.heap.size < W1.heap.size := by rw [hW1]; simp
  have R0 : D.Blk W1 w.heap.size 27 #[.int .i64 0, .int .i64 0, .string ⟨#[]⟩] := by rw [hW1]; exact D.Blk.new _ _ _
  have a0 := (B1.cell (p := ⟨ab, ao, none⟩) (show ab < _ by omega)).trans a0
  have a1 := (B1.cell (p := ⟨ab, ao + 1, none⟩) (show ab < _ by omega)).trans a1
  have a2 := (B1.cell (p := ⟨ab, ao + 2, none⟩) (show ab < _ by omega)).trans a2
  have d0 := (B1.cell (p := ⟨ab, ao + 3, none⟩) (show ab < _ by omega)).trans d0
  have d1 := (B1.cell (p := ⟨ab, ao + 3 + 1, none⟩) (show ab < _ by omega)).trans d1
  have d2 := (B1.cell (p := ⟨ab, ao + 3 + 2, none⟩) (show ab < _ by omega)).trans d2
  have la : ab < W1.heap.size := by omega
  go_enter Try.func18, Try.ntmps18
  go_upto_region 1 with fail
  rw [← hW1]
  clear hW1
  go_wp2_with fail
  (with_reducible refine (sprimN_x W1).mono ?_)
  rintro e w2 ⟨rfl, hn2, hb2⟩
  have n0 : World.cell? w2 ⟨W1.heap.size, 0, none⟩ = some (.string ⟨#[43]⟩) := hn2.cell 0
  clear hn2
  have z2 := hb2.size
  have R2 := R0.below hb2 z1
  have a0 := (hb2.cell (p := ⟨ab, ao, none⟩) la).trans a0
  have a1 := (hb2.cell (p := ⟨ab, ao + 1, none⟩) la).trans a1
  have a2 := (hb2.cell (p := ⟨ab, ao + 2, none⟩) la).trans a2
  have d0 := (hb2.cell (p := ⟨ab, ao + 3, none⟩) la).trans d0
  have d1 := (hb2.cell (p := ⟨ab, ao + 3 + 1, none⟩) la).trans d1
  have d2 := (hb2.cell (p := ⟨ab, ao + 3 + 2, none⟩) la).trans d2
  go_upto_region 3 with fail
  obtain ⟨W4, hW4⟩ : ∃ W4, W4 = w2.alloc (.cells #[.int .i64 a.k, .int .i64 a.n, .string a.t] 27) := ⟨_, rfl⟩
  rw [← hW4]
  have h4 : Below w2.heap.size w2 W4 := by rw [hW4]; exact (Below.refl _ _).alloc (Nat.le_refl _) _
  have XV : Vu.Box W4 w2.heap.size a := by rw [hW4]; exact Vu.Box.new _ _ _
  clear hW4 n0
  obtain ⟨v0, v1, v2⟩ := XV
  have z4 := h4.size
  have R4 := R2.below h4 (by omega)
  have b4 : Below w.heap.size w W4 := B1.trans ((hb2.trans (h4.mono z2)).mono (by omega))
  have a0 := (h4.cell (p := ⟨ab, ao, none⟩) (show ab < _ by omega)).trans a0
  have a1 := (h4.cell (p := ⟨ab, ao + 1, none⟩) (show ab < _ by omega)).trans a1
  have a2 := (h4.cell (p := ⟨ab, ao + 2, none⟩) (show ab < _ by omega)).trans a2
  have d0 := (h4.cell (p := ⟨ab, ao + 3, none⟩) (show ab < _ by omega)).trans d0
  have d1 := (h4.cell (p := ⟨ab, ao + 3 + 1, none⟩) (show ab < _ by omega)).trans d1
  have d2 := (h4.cell (p := ⟨ab, ao + 3 + 2, none⟩) (show ab < _ by omega)).trans d2
  have r0 : World.cell? W4 ⟨w.heap.size, 0, none⟩ = some (.int .i64 0) := R4.cell 0
  have r1 : World.cell? W4 ⟨w.heap.size, 1, none⟩ = some (.int .i64 0) := R4.cell 1
  have r2 : World.cell? W4 ⟨w.heap.size, 2, none⟩ = some (.string ⟨#[]⟩) := R4.cell 2
  have g0 := R4.frozen 0
  have g1 := R4.frozen 1
  have g2 := R4.frozen 2
  go_wp2_with fail
  refine bodyPost_ret (v := .tuple #[.agg #[.int .i64 0, .int .i64 0, .string ⟨#[]⟩], .string ⟨#[43, 58, 32, 98, 97, 100, 32, 97, 114, 103, 117, 109, 101, 110, 116]⟩]) (by simp [results, Try.results18, go_sem, r0, r1, r2]; (first | done | rfl | exact pure0_cat)) rfl ⟨by rw [HQ.out]; rfl, ?_⟩
  exact ((b4.setCell (by simp) _).setCell (by simp) _).setCell (by simp) _
set_option maxRecDepth 100000 in
set_option maxHeartbeats 4000000 in
theorem sPure0_yn (a b : Vu) (m : List Pq) (A A2 : Option Addr) (c c2 B : Nat) (w : World) (hin : Vu.E.LIn w B A c [a, b]) (hl : Pq.E.LIn w B A2 c2 m) (hB : B ≤ w.heap.size) (oa : a.ok m.length = true) (ob : b.ok m.length = true)  (hk : a.k = 3) (hk2 : ¬ b.k = 3) :
    Calls Try.prog 18 #[.int .i64 0, .slice A 2 c, .slice A2 m.length c2] w fun e w' => e = .returned (ansV (outP 0 (rawP 0 [a, b] m))) ∧ Below w.heap.size w w' := by
  obtain ⟨V, hV⟩ : ∃ V, V = outP 0 (rawP 0 [a, b] m) := ⟨_, rfl⟩
  rw [← hV]
  obtain ⟨ab, ao, rfl, hab, a0, a1, a2, _⟩ := Vu.at_ hin (i := 0) (x := a) rfl
  obtain ⟨ab2, ao2, e2, _, d0, d1, d2, _⟩ := Vu.at_ hin (i := 1) (x := b) rfl
  simp only [Option.some.injEq, Addr.mk.injEq] at e2
  obtain ⟨rfl, rfl, _⟩ := e2
  simp only [Nat.zero_mul, Nat.one_mul, Nat.add_zero] at a0 a1 a2 d0 d1 d2
  have e0 : rawP 0 [a, b] m = none := by simp [rawP, hk2]
  have HQ : Hid (V = (.zero, badP 0)) := hV.trans (by rw [e0]; rfl)
  have ek : (a.k != 3) = false := by simp [hk]
  have ek2 : (b.k != 3) = true := by simpa using hk2
  clear hk2
  clear hk e0 hV oa ob
  obtain ⟨W1, hW1⟩ : ∃ W1, W1 = w.alloc (.cells #[.int .i64 0, .int .i64 0, .string ⟨#[]⟩] 27) := ⟨_, rfl⟩
  have B1 : Below w.heap.size w W1 := by rw [hW1]; exact (Below.refl _ _).alloc (Nat.le_refl _) _
  have z1 : w.heap.size < W1.heap.size := by rw [hW1]; simp
  have R0 : D.Blk W1 w.heap.size 27 #[.int .i64 0, .int .i64 0, .string ⟨#[]⟩] := by rw [hW1]; exact D.Blk.new _ _ _
  have a0 := (B1.cell (p := ⟨ab, ao, none⟩) (show ab < _ by omega)).trans a0
  have a1 := (B1.cell (p := ⟨ab, ao + 1, none⟩) (show ab < _ by omega)).trans a1
  have a2 := (B1.cell (p := ⟨ab, ao + 2, none⟩) (show ab < _ by omega)).trans a2
  have d0 := (B1.cell (p := ⟨ab, ao + 3, none⟩) (show ab < _ by omega)).trans d0
  have d1 := (B1.cell (p := ⟨ab, ao + 3 + 1, none⟩) (show ab < _ by omega)).trans d1
  have d2 := (B1.cell (p := ⟨ab, ao + 3 + 2, none⟩) (show ab < _ by omega)).trans d2
  have la : ab < W1.heap.size := by omega
  go_enter Try.func18, Try.ntmps18
  go_upto_region 1 with fail
  rw [← hW1]
  clear hW1
  go_wp2_with fail
  (with_reducible refine (sprimN_x W1).mono ?_)
  rintro e w2 ⟨rfl, hn2, hb2⟩
  have n0 : World.cell? w2 ⟨W1.heap.size, 0, none⟩ = some (.string ⟨#[43]⟩) := hn2.cell 0
  clear hn2
  have z2 := hb2.size
  have R2 := R0.below hb2 z1
  have a0 := (hb2.cell (p := ⟨ab, ao, none⟩) la).trans a0
  have a1 := (hb2.cell (p := ⟨ab, ao + 1, none⟩) la).trans a1
  have a2 := (hb2.cell (p := ⟨ab, ao + 2, none⟩) la).trans a2
  have d0 := (hb2.cell (p := ⟨ab, ao + 3, none⟩) la).trans d0
  have d1 := (hb2.cell (p := ⟨ab, ao + 3 + 1, none⟩) la).trans d1
  have d2 := (hb2.cell (p := ⟨ab, ao + 3 + 2, none⟩) la).trans d2
  go_upto_region 3 with fail
  obtain ⟨W4, hW4⟩ : ∃ W4, W4 = w2.alloc (.cells #[.int .i64 a.k, .int .i64 a.n, .string a.t] 27) := ⟨_, rfl⟩
  rw [← hW4]
  have h4 : Below w2.heap.size w2 W4 := by rw [hW4]; exact (Below.refl _ _).alloc (Nat.le_refl _) _
  have XV : Vu.Box W4 w2.heap.size a := by rw [hW4]; exact Vu.Box.new _ _ _
  clear hW4 n0
  obtain ⟨v0, v1, v2⟩ := XV
  have z4 := h4.size
  have R4 := R2.below h4 (by omega)
  have b4 : Below w.heap.size w W4 := B1.trans ((hb2.trans (h4.mono z2)).mono (by omega))
  have a0 := (h4.cell (p := ⟨ab, ao, none⟩) (show ab < _ by omega)).trans a0
  have a1 := (h4.cell (p := ⟨ab, ao + 1, none⟩) (show ab < _ by omega)).trans a1
  have a2 := (h4.cell (p := ⟨ab, ao + 2, none⟩) (show ab < _ by omega)).trans a2
  have d0 := (h4.cell (p := ⟨ab, ao + 3, none⟩) (show ab < _ by omega)).trans d0
  have d1 := (h4.cell (p := ⟨ab, ao + 3 + 1, none⟩) (show ab < _ by omega)).trans d1
  have d2 := (h4.cell (p := ⟨ab, ao + 3 + 2, none⟩) (show ab < _ by omega)).trans d2
  have r0 : World.cell? W4 ⟨w.heap.size, 0, none⟩ = some (.int .i64 0) := R4.cell 0
  have r1 : World.cell? W4 ⟨w.heap.size, 1, none⟩ = some (.int .i64 0) := R4.cell 1
  have r2 : World.cell? W4 ⟨w.heap.size, 2, none⟩ = some (.string ⟨#[]⟩) := R4.cell 2
  have g0 := R4.frozen 0
  have g1 := R4.frozen 1
  have g2 := R4.frozen 2
  go_wp2_with fail
  refine bodyPost_ret (v := .tuple #[.agg #[.int .i64 0, .int .i64 0, .string ⟨#[]⟩], .string ⟨#[43, 58, 32, 98, 97, 100, 32, 97, 114, 103, 117, 109, 101, 110, 116]⟩]) (by simp [results, Try.results18, go_sem, r0, r1, r2]; (first | done | rfl | exact pure0_cat)) rfl ⟨by rw [HQ.out]; rfl, ?_⟩
  exact ((b4.setCell (by simp) _).setCell (by simp) _).setCell (by simp) _
set_option maxRecDepth 100000 in
set_option maxHeartbeats 4000000 in
theorem sPure0_yy (a b : Vu) (m : List Pq) (A A2 : Option Addr) (c c2 B : Nat) (w : World) (hin : Vu.E.LIn w B A c [a, b]) (hl : Pq.E.LIn w B A2 c2 m) (hB : B ≤ w.heap.size) (oa : a.ok m.length = true) (ob : b.ok m.length = true)  (hk : a.k = 3) (hk2 : b.k = 3) :
    Calls Try.prog 18 #[.int .i64 0, .slice A 2 c, .slice A2 m.length c2] w fun e w' => e = .returned (ansV (outP 0 (rawP 0 [a, b] m))) ∧ Below w.heap.size w w' := by
  obtain ⟨V, hV⟩ : ∃ V, V = outP 0 (rawP 0 [a, b] m) := ⟨_, rfl⟩
  rw [← hV]
  obtain ⟨ab, ao, rfl, hab, a0, a1, a2, _⟩ := Vu.at_ hin (i := 0) (x := a) rfl
  obtain ⟨ab2, ao2, e2, _, d0, d1, d2, _⟩ := Vu.at_ hin (i := 1) (x := b) rfl
  simp only [Option.some.injEq, Addr.mk.injEq] at e2
  obtain ⟨rfl, rfl, _⟩ := e2
  simp only [Nat.zero_mul, Nat.one_mul, Nat.add_zero] at a0 a1 a2 d0 d1 d2
  have e0 : rawP 0 [a, b] m = some (twoN 0 a b) := by simp [rawP, hk, hk2]
  have HN : Hid (∀ u, Calls Try.prog 33 #[.int .i64 0, .int .i64 a.n, .int .i64 b.n] u fun e w' => e = .returned (.tuple #[.agg #[.int .i64 V.1.k, .int .i64 V.1.n, .string V.1.t], .string V.2]) ∧ Below u.heap.size u w') := fun u => by rw [hV, e0]; exact l8Num0 a b (Vu.ok_num oa hk) (Vu.ok_num ob hk2) u
  have HQ : Hid (V = V) := rfl
  have ek : (a.k != 3) = false := by simp [hk]
  have ek2 : (b.k != 3) = false := by simp [hk2]
  clear hk hk2 e0 hV oa ob
  obtain ⟨W1, hW1⟩ : ∃ W1, W1 = w.alloc (.cells #[.int .i64 0, .int .i64 0, .string ⟨#[]⟩] 27) := ⟨_, rfl⟩
  have B1 : Below w.heap.size w W1 := by rw [hW1]; exact (Below.refl _ _).alloc (Nat.le_refl _) _
  have z1 : w.heap.size < W1.heap.size := by rw [hW1]; simp
  have R0 : D.Blk W1 w.heap.size 27 #[.int .i64 0, .int .i64 0, .string ⟨#[]⟩] := by rw [hW1]; exact D.Blk.new _ _ _
  have a0 := (B1.cell (p := ⟨ab, ao, none⟩) (show ab < _ by omega)).trans a0
  have a1 := (B1.cell (p := ⟨ab, ao + 1, none⟩) (show ab < _ by omega)).trans a1
  have a2 := (B1.cell (p := ⟨ab, ao + 2, none⟩) (show ab < _ by omega)).trans a2
  have d0 := (B1.cell (p := ⟨ab, ao + 3, none⟩) (show ab < _ by omega)).trans d0
  have d1 := (B1.cell (p := ⟨ab, ao + 3 + 1, none⟩) (show ab < _ by omega)).trans d1
  have d2 := (B1.cell (p := ⟨ab, ao + 3 + 2, none⟩) (show ab < _ by omega)).trans d2
  have la : ab < W1.heap.size := by omega
  go_enter Try.func18, Try.ntmps18
  go_upto_region 1 with fail
  rw [← hW1]
  clear hW1
  go_wp2_with fail
  (with_reducible refine (sprimN_x W1).mono ?_)
  rintro e w2 ⟨rfl, hn2, hb2⟩
  have n0 : World.cell? w2 ⟨W1.heap.size, 0, none⟩ = some (.string ⟨#[43]⟩) := hn2.cell 0
  clear hn2
  have z2 := hb2.size
  have R2 := R0.below hb2 z1
  have a0 := (hb2.cell (p := ⟨ab, ao, none⟩) la).trans a0
  have a1 := (hb2.cell (p := ⟨ab, ao + 1, none⟩) la).trans a1
  have a2 := (hb2.cell (p := ⟨ab, ao + 2, none⟩) la).trans a2
  have d0 := (hb2.cell (p := ⟨ab, ao + 3, none⟩) la).trans d0
  have d1 := (hb2.cell (p := ⟨ab, ao + 3 + 1, none⟩) la).trans d1
  have d2 := (hb2.cell (p := ⟨ab, ao + 3 + 2, none⟩) la).trans d2
  go_upto_region 3 with fail
  obtain ⟨W4, hW4⟩ : ∃ W4, W4 = w2.alloc (.cells #[.int .i64 a.k, .int .i64 a.n, .string a.t] 27) := ⟨_, rfl⟩
  rw [← hW4]
  have h4 : Below w2.heap.size w2 W4 := by rw [hW4]; exact (Below.refl _ _).alloc (Nat.le_refl _) _
  have XV : Vu.Box W4 w2.heap.size a := by rw [hW4]; exact Vu.Box.new _ _ _
  clear hW4 n0
  obtain ⟨v0, v1, v2⟩ := XV
  have z4 := h4.size
  have R4 := R2.below h4 (by omega)
  have b4 : Below w.heap.size w W4 := B1.trans ((hb2.trans (h4.mono z2)).mono (by omega))
  have a0 := (h4.cell (p := ⟨ab, ao, none⟩) (show ab < _ by omega)).trans a0
  have a1 := (h4.cell (p := ⟨ab, ao + 1, none⟩) (show ab < _ by omega)).trans a1
  have a2 := (h4.cell (p := ⟨ab, ao + 2, none⟩) (show ab < _ by omega)).trans a2
  have d0 := (h4.cell (p := ⟨ab, ao + 3, none⟩) (show ab < _ by omega)).trans d0
  have d1 := (h4.cell (p := ⟨ab, ao + 3 + 1, none⟩) (show ab < _ by omega)).trans d1
  have d2 := (h4.cell (p := ⟨ab, ao + 3 + 2, none⟩) (show ab < _ by omega)).trans d2
  have r0 : World.cell? W4 ⟨w.heap.size, 0, none⟩ = some (.int .i64 0) := R4.cell 0
  have r1 : World.cell? W4 ⟨w.heap.size, 1, none⟩ = some (.int .i64 0) := R4.cell 1
  have r2 : World.cell? W4 ⟨w.heap.size, 2, none⟩ = some (.string ⟨#[]⟩) := R4.cell 2
  have g0 := R4.frozen 0
  have g1 := R4.frozen 1
  have g2 := R4.frozen 2
  go_wp2_with fail
  go_region_with (first | (go_at_call 33; (with_reducible refine (HN.out _).mono ?_); rintro e w5 ⟨rfl, hb5⟩; have hb6 : Below W4.heap.size W4 w5 := below_undrew hb5; have R5 := R4.below hb6 (by omega); have r0 : World.cell? w5 ⟨w.heap.size, 0, none⟩ = some (.int .i64 0) := R5.cell 0; have r1 : World.cell? w5 ⟨w.heap.size, 1, none⟩ = some (.int .i64 0) := R5.cell 1; have r2 : World.cell? w5 ⟨w.heap.size, 2, none⟩ = some (.string ⟨#[]⟩) := R5.cell 2; have g0 := R5.frozen 0; have g1 := R5.frozen 1; have g2 := R5.frozen 2))
  all_goals go_wp2_with fail
  all_goals (have b5 := b4.trans (hb6.mono (by omega)))
  all_goals refine bodyPost_ret (v := .tuple #[.agg #[.int .i64 V.1.k, .int .i64 V.1.n, .string V.1.t], .string V.2]) (by simp [results, Try.results18, go_sem, r0, r1, r2]) rfl ⟨rfl, ?_⟩
  all_goals exact ((b5.setCell (by simp) _).setCell (by simp) _).setCell (by simp) _
set_option maxRecDepth 100000 in
set_option maxHeartbeats 4000000 in
theorem sPure1_nx (a b : Vu) (m : List Pq) (A A2 : Option Addr) (c c2 B : Nat) (w : World) (hin : Vu.E.LIn w B A c [a, b]) (hl : Pq.E.LIn w B A2 c2 m) (hB : B ≤ w.heap.size) (oa : a.ok m.length = true) (ob : b.ok m.length = true)  (hk : ¬ a.k = 3) :
    Calls Try.prog 18 #[.int .i64 1, .slice A 2 c, .slice A2 m.length c2] w fun e w' => e = .returned (ansV (outP 1 (rawP 1 [a, b] m))) ∧ Below w.heap.size w w' := by
  obtain ⟨V, hV⟩ : ∃ V, V = outP 1 (rawP 1 [a, b] m) := ⟨_, rfl⟩
  rw [← hV]
  obtain ⟨ab, ao, rfl, hab, a0, a1, a2, _⟩ := Vu.at_ hin (i := 0) (x := a) rfl
  obtain ⟨ab2, ao2, e2, _, d0, d1, d2, _⟩ := Vu.at_ hin (i := 1) (x := b) rfl
  simp only [Option.some.injEq, Addr.mk.injEq] at e2
  obtain ⟨rfl, rfl, _⟩ := e2
  simp only [Nat.zero_mul, Nat.one_mul, Nat.add_zero] at a0 a1 a2 d0 d1 d2
  have e0 : rawP 1 [a, b] m = none := by simp [rawP, hk]
  have HQ : Hid (V = (.zero, badP 1)) := hV.trans (by rw [e0]; rfl)
  have ek : (a.k != 3) = true := by simpa using hk
  clear hk e0 hV oa ob
  obtain ⟨W1, hW1⟩ : ∃ W1, W1 = w.alloc (.cells #[.int .i64 0, .int .i64 0, .string ⟨#[]⟩] 27) := ⟨_, rfl⟩
  have B1 : Below w.heap.size w W1 := by rw [hW1]; exact (Below.refl _ _).alloc (Nat.le_refl _) _
  have z1 : w.heap.size < W1.heap.size := by rw [hW1]; simp
  have R0 : D.Blk W1 w.heap.size 27 #[.int .i64 0, .int .i64 0, .string ⟨#[]⟩] := by rw [hW1]; exact D.Blk.new _ _ _
  have a0 := (B1.cell (p := ⟨ab, ao, none⟩) (show ab < _ by omega)).trans a0
  have a1 := (B1.cell (p := ⟨ab, ao + 1, none⟩) (show ab < _ by omega)).trans a1
  have a2 := (B1.cell (p := ⟨ab, ao + 2, none⟩) (show ab < _ by omega)).trans a2
  have d0 := (B1.cell (p := ⟨ab, ao + 3, none⟩) (show ab < _ by omega)).trans d0
  have d1 := (B1.cell (p := ⟨ab, ao + 3 + 1, none⟩) (show ab < _ by omega)).trans d1
  have d2 := (B1.cell (p := ⟨ab, ao + 3 + 2, none⟩) (show ab < _ by omega)).trans d2
  have la : ab < W1.heap.size := by omega
  go_enter Try.func18, Try.ntmps18
  go_upto_region 1 with fail
  rw [← hW1]
  clear hW1
  go_wp2_with fail
  (with_reducible refine (sprimN_x W1).mono ?_)
  rintro e w2 ⟨rfl, hn2, hb2⟩
  have n0 : World.cell? w2 ⟨W1.heap.size, 1, none⟩ = some (.string ⟨#[45]⟩) := hn2.cell 1
  clear hn2
  have z2 := hb2.size
  have R2 := R0.below hb2 z1
  have a0 := (hb2.cell (p := ⟨ab, ao, none⟩) la).trans a0
  have a1 := (hb2.cell (p := ⟨ab, ao + 1, none⟩) la).trans a1
  have a2 := (hb2.cell (p := ⟨ab, ao + 2, none⟩) la).trans a2
  have d0 := (hb2.cell (p := ⟨ab, ao + 3, none⟩) la).trans d0
  have d1 := (hb2.cell (p := ⟨ab, ao + 3 + 1, none⟩) la).trans d1
  have d2 := (hb2.cell (p := ⟨ab, ao + 3 + 2, none⟩) la).trans d2
  go_upto_region 3 with fail
  obtain ⟨W4, hW4⟩ : ∃ W4, W4 = w2.alloc (.cells #[.int .i64 a.k, .int .i64 a.n, .string a.t] 27) := ⟨_, rfl⟩
  rw [← hW4]
  have h4 : Below w2.heap.size w2 W4 := by rw [hW4]; exact (Below.refl _ _).alloc (Nat.le_refl _) _
  have XV : Vu.Box W4 w2.heap.size a := by rw [hW4]; exact Vu.Box.new _ _ _
  clear hW4 n0
  obtain ⟨v0, v1, v2⟩ := XV
  have z4 := h4.size
  have R4 := R2.below h4 (by omega)
  have b4 : Below w.heap.size w W4 := B1.trans ((hb2.trans (h4.mono z2)).mono (by omega))
  have a0 := (h4.cell (p := ⟨ab, ao, none⟩) (show ab < _ by omega)).trans a0
  have a1 := (h4.cell (p := ⟨ab, ao + 1, none⟩) (show ab < _ by omega)).trans a1
  have a2 := (h4.cell (p := ⟨ab, ao + 2, none⟩) (show ab < _ by omega)).trans a2
  have d0 := (h4.cell (p := ⟨ab, ao + 3, none⟩) (show ab < _ by omega)).trans d0
  have d1 := (h4.cell (p := ⟨ab, ao + 3 + 1, none⟩) (show ab < _ by omega)).trans d1
  have d2 := (h4.cell (p := ⟨ab, ao + 3 + 2, none⟩) (show ab < _ by omega)).trans d2
  have r0 : World.cell? W4 ⟨w.heap.size, 0, none⟩ = some (.int .i64 0) := R4.cell 0
  have r1 : World.cell? W4 ⟨w.heap.size, 1, none⟩ = some (.int .i64 0) := R4.cell 1
  have r2 : World.cell? W4 ⟨w.heap.size, 2, none⟩ = some (.string ⟨#[]⟩) := R4.cell 2
  have g0 := R4.frozen 0
  have g1 := R4.frozen 1
  have g2 := R4.frozen 2
  go_wp2_with fail
  refine bodyPost_ret (v := .tuple #[.agg #[.int .i64 0, .int .i64 0, .string ⟨#[]⟩], .string ⟨#[45, 58, 32, 98, 97, 100, 32, 97, 114, 103, 117, 109, 101, 110, 116]⟩]) (by simp [results, Try.results18, go_sem, r0, r1, r2]; (first | done | rfl | exact pure1_cat)) rfl ⟨by rw [HQ.out]; rfl, ?_⟩
  exact ((b4.setCell (by simp) _).setCell (by simp) _).setCell (by simp) _
set_option maxRecDepth 100000 in
set_option maxHeartbeats 4000000 in
theorem sPure1_yn (a b : Vu) (m : List Pq) (A A2 : Option Addr) (c c2 B : Nat) (w : World) (hin : Vu.E.LIn w B A c [a, b]) (hl : Pq.E.LIn w B A2 c2 m) (hB : B ≤ w.heap.size) (oa : a.ok m.length = true) (ob : b.ok m.length = true)  (hk : a.k = 3) (hk2 : ¬ b.k = 3) :
    Calls Try.prog 18 #[.int .i64 1, .slice A 2 c, .slice A2 m.length c2] w fun e w' => e = .returned (ansV (outP 1 (rawP 1 [a, b] m))) ∧ Below w.heap.size w w' := by
  obtain ⟨V, hV⟩ : ∃ V, V = outP 1 (rawP 1 [a, b] m) := ⟨_, rfl⟩
  rw [← hV]
  obtain ⟨ab, ao, rfl, hab, a0, a1, a2, _⟩ := Vu.at_ hin (i := 0) (x := a) rfl
  obtain ⟨ab2, ao2, e2, _, d0, d1, d2, _⟩ := Vu.at_ hin (i := 1) (x := b) rfl
  simp only [Option.some.injEq, Addr.mk.injEq] at e2
  obtain ⟨rfl, rfl, _⟩ := e2
  simp only [Nat.zero_mul, Nat.one_mul, Nat.add_zero] at a0 a1 a2 d0 d1 d2
  have e0 : rawP 1 [a, b] m = none := by simp [rawP, hk2]
  have HQ : Hid (V = (.zero, badP 1)) := hV.trans (by rw [e0]; rfl)
  have ek : (a.k != 3) = false := by simp [hk]
  have ek2 : (b.k != 3) = true := by simpa using hk2
  clear hk2
  clear hk e0 hV oa ob
  obtain ⟨W1, hW1⟩ : ∃ W1, W1 = w.alloc (.cells #[.int .i64 0, .int .i64 0, .string ⟨#[]⟩] 27) := ⟨_, rfl⟩
  have B1 : Below w.heap.size w W1 := by rw [hW1]; exact (Below.refl _ _).alloc (Nat.le_refl _) _
  have z1 : w.heap.size < W1.heap.size := by rw [hW1]; simp
  have R0 : D.Blk W1 w.heap.size 27 #[.int .i64 0, .int .i64 0, .string ⟨#[]⟩] := by rw [hW1]; exact D.Blk.new _ _ _
  have a0 := (B1.cell (p := ⟨ab, ao, none⟩) (show ab < _ by omega)).trans a0
  have a1 := (B1.cell (p := ⟨ab, ao + 1, none⟩) (show ab < _ by omega)).trans a1
  have a2 := (B1.cell (p := ⟨ab, ao + 2, none⟩) (show ab < _ by omega)).trans a2
  have d0 := (B1.cell (p := ⟨ab, ao + 3, none⟩) (show ab < _ by omega)).trans d0
  have d1 := (B1.cell (p := ⟨ab, ao + 3 + 1, none⟩) (show ab < _ by omega)).trans d1
  have d2 := (B1.cell (p := ⟨ab, ao + 3 + 2, none⟩) (show ab < _ by omega)).trans d2
  have la : ab < W1.heap.size := by omega
  go_enter Try.func18, Try.ntmps18
  go_upto_region 1 with fail
  rw [← hW1]
  clear hW1
  go_wp2_with fail
  (with_reducible refine (sprimN_x W1).mono ?_)
  rintro e w2 ⟨rfl, hn2, hb2⟩
  have n0 : World.cell? w2 ⟨W1.heap.size, 1, none⟩ = some (.string ⟨#[45]⟩) := hn2.cell 1
  clear hn2
  have z2 := hb2.size
  have R2 := R0.below hb2 z1
  have a0 := (hb2.cell (p := ⟨ab, ao, none⟩) la).trans a0
  have a1 := (hb2.cell (p := ⟨ab, ao + 1, none⟩) la).trans a1
  have a2 := (hb2.cell (p := ⟨ab, ao + 2, none⟩) la).trans a2
  have d0 := (hb2.cell (p := ⟨ab, ao + 3, none⟩) la).trans d0
  have d1 := (hb2.cell (p := ⟨ab, ao + 3 + 1, none⟩) la).trans d1
  have d2 := (hb2.cell (p := ⟨ab, ao + 3 + 2, none⟩) la).trans d2
  go_upto_region 3 with fail
  obtain ⟨W4, hW4⟩ : ∃ W4, W4 = w2.alloc (.cells #[.int .i64 a.k, .int .i64 a.n, .string a.t] 27) := ⟨_, rfl⟩
  rw [← hW4]
  have h4 : Below w2.heap.size w2 W4 := by rw [hW4]; exact (Below.refl _ _).alloc (Nat.le_refl _) _
  have XV : Vu.Box W4 w2.heap.size a := by rw [hW4]; exact Vu.Box.new _ _ _
  clear hW4 n0
  obtain ⟨v0, v1, v2⟩ := XV
  have z4 := h4.size
  have R4 := R2.below h4 (by omega)
  have b4 : Below w.heap.size w W4 := B1.trans ((hb2.trans (h4.mono z2)).mono (by omega))
  have a0 := (h4.cell (p := ⟨ab, ao, none⟩) (show ab < _ by omega)).trans a0
  have a1 := (h4.cell (p := ⟨ab, ao + 1, none⟩) (show ab < _ by omega)).trans a1
  have a2 := (h4.cell (p := ⟨ab, ao + 2, none⟩) (show ab < _ by omega)).trans a2
  have d0 := (h4.cell (p := ⟨ab, ao + 3, none⟩) (show ab < _ by omega)).trans d0
  have d1 := (h4.cell (p := ⟨ab, ao + 3 + 1, none⟩) (show ab < _ by omega)).trans d1
  have d2 := (h4.cell (p := ⟨ab, ao + 3 + 2, none⟩) (show ab < _ by omega)).trans d2
  have r0 : World.cell? W4 ⟨w.heap.size, 0, none⟩ = some (.int .i64 0) := R4.cell 0
  have r1 : World.cell? W4 ⟨w.heap.size, 1, none⟩ = some (.int .i64 0) := R4.cell 1
  have r2 : World.cell? W4 ⟨w.heap.size, 2, none⟩ = some (.string ⟨#[]⟩) := R4.cell 2
  have g0 := R4.frozen 0
  have g1 := R4.frozen 1
  have g2 := R4.frozen 2
  go_wp2_with fail
  refine bodyPost_ret (v := .tuple #[.agg #[.int .i64 0, .int .i64 0, .string ⟨#[]⟩], .string ⟨#[45, 58, 32, 98, 97, 100, 32, 97, 114, 103, 117, 109, 101, 110, 116]⟩]) (by simp [results, Try.results18, go_sem, r0, r1, r2]; (first | done | rfl | exact pure1_cat)) rfl ⟨by rw [HQ.out]; rfl, ?_⟩
  exact ((b4.setCell (by simp) _).setCell (by simp) _).setCell (by simp) _
set_option maxRecDepth 100000 in
set_option maxHeartbeats 4000000 in
theorem sPure1_yy (a b : Vu) (m : List Pq) (A A2 : Option Addr) (c c2 B : Nat) (w : World) (hin : Vu.E.LIn w B A c [a, b]) (hl : Pq.E.LIn w B A2 c2 m) (hB : B ≤ w.heap.size) (oa : a.ok m.length = true) (ob : b.ok m.length = true)  (hk : a.k = 3) (hk2 : b.k = 3) :
    Calls Try.prog 18 #[.int .i64 1, .slice A 2 c, .slice A2 m.length c2] w fun e w' => e = .returned (ansV (outP 1 (rawP 1 [a, b] m))) ∧ Below w.heap.size w w' := by
  obtain ⟨V, hV⟩ : ∃ V, V = outP 1 (rawP 1 [a, b] m) := ⟨_, rfl⟩
  rw [← hV]
  obtain ⟨ab, ao, rfl, hab, a0, a1, a2, _⟩ := Vu.at_ hin (i := 0) (x := a) rfl
  obtain ⟨ab2, ao2, e2, _, d0, d1, d2, _⟩ := Vu.at_ hin (i := 1) (x := b) rfl
  simp only [Option.some.injEq, Addr.mk.injEq] at e2
  obtain ⟨rfl, rfl, _⟩ := e2
  simp only [Nat.zero_mul, Nat.one_mul, Nat.add_zero] at a0 a1 a2 d0 d1 d2
  have e0 : rawP 1 [a, b] m = some (twoN 1 a b) := by simp [rawP, hk, hk2]
  have HN : Hid (∀ u, Calls Try.prog 33 #[.int .i64 1, .int .i64 a.n, .int .i64 b.n] u fun e w' => e = .returned (.tuple #[.agg #[.int .i64 V.1.k, .int .i64 V.1.n, .string V.1.t], .string V.2]) ∧ Below u.heap.size u w') := fun u => by rw [hV, e0]; exact l8Num1 a b (Vu.ok_num oa hk) (Vu.ok_num ob hk2) u
  have HQ : Hid (V = V) := rfl
  have ek : (a.k != 3) = false := by simp [hk]
  have ek2 : (b.k != 3) = false := by simp [hk2]
  clear hk hk2 e0 hV oa ob
  obtain ⟨W1, hW1⟩ : ∃ W1, W1 = w.alloc (.cells #[.int .i64 0, .int .i64 0, .string ⟨#[]⟩] 27) := ⟨_, rfl⟩
  have B1 : Below w.heap.size w W1 := by rw [hW1]; exact (Below.refl _ _).alloc (Nat.le_refl _) _
  have z1 : w.heap.size < W1.heap.size := by rw [hW1]; simp
  have R0 : D.Blk W1 w.heap.size 27 #[.int .i64 0, .int .i64 0, .string ⟨#[]⟩] := by rw [hW1]; exact D.Blk.new _ _ _
  have a0 := (B1.cell (p := ⟨ab, ao, none⟩) (show ab < _ by omega)).trans a0
  have a1 := (B1.cell (p := ⟨ab, ao + 1, none⟩) (show ab < _ by omega)).trans a1
  have a2 := (B1.cell (p := ⟨ab, ao + 2, none⟩) (show ab < _ by omega)).trans a2
  have d0 := (B1.cell (p := ⟨ab, ao + 3, none⟩) (show ab < _ by omega)).trans d0
  have d1 := (B1.cell (p := ⟨ab, ao + 3 + 1, none⟩) (show ab < _ by omega)).trans d1
  have d2 := (B1.cell (p := ⟨ab, ao + 3 + 2, none⟩) (show ab < _ by omega)).trans d2
  have la : ab < W1.heap.size := by omega
  go_enter Try.func18, Try.ntmps18
  go_upto_region 1 with fail
  rw [← hW1]
  clear hW1
  go_wp2_with fail
  (with_reducible refine (sprimN_x W1).mono ?_)
  rintro e w2 ⟨rfl, hn2, hb2⟩
  have n0 : World.cell? w2 ⟨W1.heap.size, 1, none⟩ = some (.string ⟨#[45]⟩) := hn2.cell 1
  clear hn2
  have z2 := hb2.size
  have R2 := R0.below hb2 z1
  have a0 := (hb2.cell (p := ⟨ab, ao, none⟩) la).trans a0
  have a1 := (hb2.cell (p := ⟨ab, ao + 1, none⟩) la).trans a1
  have a2 := (hb2.cell (p := ⟨ab, ao + 2, none⟩) la).trans a2
  have d0 := (hb2.cell (p := ⟨ab, ao + 3, none⟩) la).trans d0
  have d1 := (hb2.cell (p := ⟨ab, ao + 3 + 1, none⟩) la).trans d1
  have d2 := (hb2.cell (p := ⟨ab, ao + 3 + 2, none⟩) la).trans d2
  go_upto_region 3 with fail
  obtain ⟨W4, hW4⟩ : ∃ W4, W4 = w2.alloc (.cells #[.int .i64 a.k, .int .i64 a.n, .string a.t] 27) := ⟨_, rfl⟩
  rw [← hW4]
  have h4 : Below w2.heap.size w2 W4 := by rw [hW4]; exact (Below.refl _ _).alloc (Nat.le_refl _) _
  have XV : Vu.Box W4 w2.heap.size a := by rw [hW4]; exact Vu.Box.new _ _ _
  clear hW4 n0
  obtain ⟨v0, v1, v2⟩ := XV
  have z4 := h4.size
  have R4 := R2.below h4 (by omega)
  have b4 : Below w.heap.size w W4 := B1.trans ((hb2.trans (h4.mono z2)).mono (by omega))
  have a0 := (h4.cell (p := ⟨ab, ao, none⟩) (show ab < _ by omega)).trans a0
  have a1 := (h4.cell (p := ⟨ab, ao + 1, none⟩) (show ab < _ by omega)).trans a1
  have a2 := (h4.cell (p := ⟨ab, ao + 2, none⟩) (show ab < _ by omega)).trans a2
  have d0 := (h4.cell (p := ⟨ab, ao + 3, none⟩) (show ab < _ by omega)).trans d0
  have d1 := (h4.cell (p := ⟨ab, ao + 3 + 1, none⟩) (show ab < _ by omega)).trans d1
  have d2 := (h4.cell (p := ⟨ab, ao + 3 + 2, none⟩) (show ab < _ by omega)).trans d2
  have r0 : World.cell? W4 ⟨w.heap.size, 0, none⟩ = some (.int .i64 0) := R4.cell 0
  have r1 : World.cell? W4 ⟨w.heap.size, 1, none⟩ = some (.int .i64 0) := R4.cell 1
  have r2 : World.cell? W4 ⟨w.heap.size, 2, none⟩ = some (.string ⟨#[]⟩) := R4.cell 2
  have g0 := R4.frozen 0
  have g1 := R4.frozen 1
  have g2 := R4.frozen 2
  go_wp2_with fail
  go_region_with (first | (go_at_call 33; (with_reducible refine (HN.out _).mono ?_); rintro e w5 ⟨rfl, hb5⟩; have hb6 : Below W4.heap.size W4 w5 := below_undrew hb5; have R5 := R4.below hb6 (by omega); have r0 : World.cell? w5 ⟨w.heap.size, 0, none⟩ = some (.int .i64 0) := R5.cell 0; have r1 : World.cell? w5 ⟨w.heap.size, 1, none⟩ = some (.int .i64 0) := R5.cell 1; have r2 : World.cell? w5 ⟨w.heap.size, 2, none⟩ = some (.string ⟨#[]⟩) := R5.cell 2; have g0 := R5.frozen 0; have g1 := R5.frozen 1; have g2 := R5.frozen 2))
  all_goals go_wp2_with fail
  all_goals (have b5 := b4.trans (hb6.mono (by omega)))
  all_goals refine bodyPost_ret (v := .tuple #[.agg #[.int .i64 V.1.k, .int .i64 V.1.n, .string V.1.t], .string V.2]) (by simp [results, Try.results18, go_sem, r0, r1, r2]) rfl ⟨rfl, ?_⟩
  all_goals exact ((b5.setCell (by simp) _).setCell (by simp) _).setCell (by simp) _
end Go.Proofs.Ytnldlbglgalbaab

namespace Go.Proofs.Ytnldlbglgalbaab
open Go.RowKit
set_option maxRecDepth 100000 in
set_option maxHeartbeats 4000000 in
theorem sPure2_nx (a b : Vu) (m : List Pq) (A A2 : Option Addr) (c c2 B : Nat) (w : World) (hin : Vu.E.LIn w B A c [a, b]) (hl : Pq.E.LIn w B A2 c2 m) (hB : B ≤ w.heap.size) (oa : a.ok m.length = true) (ob : b.ok m.length = true)  (hk : ¬ a.k = 3) :
    Calls Try.prog 18 #[.int .i64 2, .slice A 2 c, .slice A2 m.length c2] w fun e w' => e = .returned (ansV (outP 2 (rawP 2 [a, b] m))) ∧ Below w.heap.size w w' := by
  obtain ⟨V, hV⟩ : ∃ V, V = outP 2 (rawP 2 [a, b] m) := ⟨_, rfl⟩
  rw [← hV]
  obtain ⟨ab, ao, rfl, hab, a0, a1, a2, _⟩ := Vu.at_ hin (i := 0) (x := a) rfl
  obtain ⟨ab2, ao2, e2, _, d0, d1, d2, _⟩ := Vu.at_ hin (i := 1) (x := b) rfl
  simp only [Option.some.injEq, Addr.mk.injEq] at e2
  obtain ⟨rfl, rfl, _⟩ := e2
  simp only [Nat.zero_mul, Nat.one_mul, Nat.add_zero] at a0 a1 a2 d0 d1 d2
  have e0 : rawP 2 [a, b] m = none := by simp [rawP, hk]
  have HQ : Hid (V = (.zero, badP 2)) := hV.trans (by rw [e0]; rfl)
  have ek : (a.k != 3) = true := by simpa using hk
  clear hk e0 hV oa ob
  obtain ⟨W1, hW1⟩ : ∃ W1, W1 = w.alloc (.cells #[.int .i64 0, .int .i64 0, .string ⟨#[]⟩] 27) := ⟨_, rfl⟩
  have B1 : Below w.heap.size w W1 := by rw [hW1]; exact (Below.refl _ _).alloc (Nat.le_refl _) _
  have z1 : w.heap.size < W1.heap.size := by rw [hW1]; simp
  have R0 : D.Blk W1 w.heap.size 27 #[.int .i64 0, .int .i64 0, .string ⟨#[]⟩] := by rw [hW1]; exact D.Blk.new _ _ _
  have a0 := (B1.cell (p := ⟨ab, ao, none⟩) (show ab < _ by omega)).trans a0
  have a1 := (B1.cell (p := ⟨ab, ao + 1, none⟩) (show ab < _ by omega)).trans a1
  have a2 := (B1.cell (p := ⟨ab, ao + 2, none⟩) (show ab < _ by omega)).trans a2
  have d0 := (B1.cell (p := ⟨ab, ao + 3, none⟩) (show ab < _ by omega)).trans d0
  have d1 := (B1.cell (p := ⟨ab, ao + 3 + 1, none⟩) (show ab < _ by omega)).trans d1
  have d2 := (B1.cell (p := ⟨ab, ao + 3 + 2, none⟩) (show ab < _ by omega)).trans d2
  have la : ab < W1.heap.size := by omega
  go_enter Try.func18, Try.ntmps18
  go_upto_region 1 with fail
  rw [← hW1]
  clear hW1
  go_wp2_with fail
  (with_reducible refine (sprimN_x W1).mono ?_)
  rintro e w2 ⟨rfl, hn2, hb2⟩
  have n0 : World.cell? w2 ⟨W1.heap.size, 2, none⟩ = some (.string ⟨#[42]⟩) := hn2.cell 2
  clear hn2
  have z2 := hb2.size
  have R2 := R0.below hb2 z1
  have a0 := (hb2.cell (p := ⟨ab, ao, none⟩) la).trans a0
  have a1 := (hb2.cell (p := ⟨ab, ao + 1, none⟩) la).trans a1
  have a2 := (hb2.cell (p := ⟨ab, ao + 2, none⟩) la).trans a2
  have d0 := (hb2.cell (p := ⟨ab, ao + 3, none⟩) la).trans d0
  have d1 := (hb2.cell (p := ⟨ab, ao + 3 + 1, none⟩) la).trans d1
  have d2 := (hb2.cell (p := ⟨ab, ao + 3 + 2, none⟩) la).trans d2
  go_upto_region 3 with fail
  obtain ⟨W4, hW4⟩ : ∃ W4, W4 = w2.alloc (.cells #[.int .i64 a.k, .int .i64 a.n, .string a.t] 27) := ⟨_, rfl⟩
  rw [← hW4]
  have h4 : Below w2.heap.size w2 W4 := by rw [hW4]; exact (Below.refl _ _).alloc (Nat.le_refl _) _
  have XV : Vu.Box W4 w2.heap.size a := by rw [hW4]; exact Vu.Box.new _ _ _
  clear hW4 n0
  obtain ⟨v0, v1, v2⟩ := XV
  have z4 := h4.size
  have R4 := R2.below h4 (by omega)
  have b4 : Below w.heap.size w W4 := B1.trans ((hb2.trans (h4.mono z2)).mono (by omega))
  have a0 := (h4.cell (p := ⟨ab, ao, none⟩) (show ab < _ by omega)).trans a0
  have a1 := (h4.cell (p := ⟨ab, ao + 1, none⟩) (show ab < _ by omega)).trans a1
  have a2 := (h4.cell (p := ⟨ab, ao + 2, none⟩) (show ab < _ by omega)).trans a2
  have d0 := (h4.cell (p := ⟨ab, ao + 3, none⟩) (show ab < _ by omega)).trans d0
  have d1 := (h4.cell (p := ⟨ab, ao + 3 + 1, none⟩) (show ab < _ by omega)).trans d1
  have d2 := (h4.cell (p := ⟨ab, ao + 3 + 2, none⟩) (show ab < _ by omega)).trans d2
  have r0 : World.cell? W4 ⟨w.heap.size, 0, none⟩ = some (.int .i64 0) := R4.cell 0
  have r1 : World.cell? W4 ⟨w.heap.size, 1, none⟩ = some (.int .i64 0) := R4.cell 1
  have r2 : World.cell? W4 ⟨w.heap.size, 2, none⟩ = some (.string ⟨#[]⟩) := R4.cell 2
  have g0 := R4.frozen 0
  have g1 := R4.frozen 1
  have g2 := R4.frozen 2
  go_wp2_with fail
  refine bodyPost_ret (v := .tuple #[.agg #[.int .i64 0, .int .i64 0, .string ⟨#[]⟩], .string ⟨#[42, 58, 32, 98, 97, 100, 32, 97, 114, 103, 117, 109, 101, 110, 116]⟩]) (by simp [results, Try.results18, go_sem, r0, r1, r2]; (first | done | rfl | exact pure2_cat)) rfl ⟨by rw [HQ.out]; rfl, ?_⟩
  exact ((b4.setCell (by simp) _).setCell (by simp) _).setCell (by simp) _
set_option maxRecDepth 100000 in
set_option maxHeartbeats 4000000 in
theorem sPure2_yn (a b : Vu) (m : List Pq) (A A2 : Option Addr) (c c2 B : Nat) (w : World) (hin : Vu.E.LIn w B A c [a, b]) (hl : Pq.E.LIn w B A2 c2 m) (hB : B ≤ w.heap.size) (oa : a.ok m.length = true) (ob : b.ok m.length = true)  (hk : a.k = 3) (hk2 : ¬ b.k = 3) :
    Calls Try.prog 18 #[.int .i64 2, .slice A 2 c, .slice A2 m.length c2] w fun e w' => e = .returned (ansV (outP 2 (rawP 2 [a, b] m))) ∧ Below w.heap.size w w' := by
  obtain ⟨V, hV⟩ : ∃ V, V = outP 2 (rawP 2 [a, b] m) := ⟨_, rfl⟩
  rw [← hV]
  obtain ⟨ab, ao, rfl, hab, a0, a1, a2, _⟩ := Vu.at_ hin (i := 0) (x := a) rfl
  obtain ⟨ab2, ao2, e2, _, d0, d1, d2, _⟩ := Vu.at_ hin (i := 1) (x := b) rfl
  simp only [Option.some.injEq, Addr.mk.injEq] at e2
  obtain ⟨rfl, rfl, _⟩ := e2
  simp only [Nat.zero_mul, Nat.one_mul, Nat.add_zero] at a0 a1 a2 d0 d1 d2
  have e0 : rawP 2 [a, b] m = none := by simp [rawP, hk2]
  have HQ : Hid (V = (.zero, badP 2)) := hV.trans (by rw [e0]; rfl)
  have ek : (a.k != 3) = false := by simp [hk]
  have ek2 : (b.k != 3) = true := by simpa using hk2
  clear hk2
  clear hk e0 hV oa ob
  obtain ⟨W1, hW1⟩ : ∃ W1, W1 = w.alloc (.cells #[.int .i64 0, .int .i64 0, .string ⟨#[]⟩] 27) := ⟨_, rfl⟩
  have B1 : Below w.heap.size w W1 := by rw [hW1]; exact (Below.refl _ _).alloc (Nat.le_refl _) _
  have z1 : w.heap.size < W1.heap.size := by rw [hW1]; simp
  have R0 : D.Blk W1 w.heap.size 27 #[.int .i64 0, .int .i64 0, .string ⟨#[]⟩] := by rw [hW1]; exact D.Blk.new _ _ _
  have a0 := (B1.cell (p := ⟨ab, ao, none⟩) (show ab < _ by omega)).trans a0
  have a1 := (B1.cell (p := ⟨ab, ao + 1, none⟩) (show ab < _ by omega)).trans a1
  have a2 := (B1.cell (p := ⟨ab, ao + 2, none⟩) (show ab < _ by omega)).trans a2
  have d0 := (B1.cell (p := ⟨ab, ao + 3, none⟩) (show ab < _ by omega)).trans d0
  have d1 := (B1.cell (p := ⟨ab, ao + 3 + 1, none⟩) (show ab < _ by omega)).trans d1
  have d2 := (B1.cell (p := ⟨ab, ao + 3 + 2, none⟩) (show ab < _ by omega)).trans d2
  have la : ab < W1.heap.size := by omega
  go_enter Try.func18, Try.ntmps18
  go_upto_region 1 with fail
  rw [← hW1]
  clear hW1
  go_wp2_with fail
  (with_reducible refine (sprimN_x W1).mono ?_)
  rintro e w2 ⟨rfl, hn2, hb2⟩
  have n0 : World.cell? w2 ⟨W1.heap.size, 2, none⟩ = some (.string ⟨#[42]⟩) := hn2.cell 2
  clear hn2
  have z2 := hb2.size
  have R2 := R0.below hb2 z1
  have a0 := (hb2.cell (p := ⟨ab, ao, none⟩) la).trans a0
  have a1 := (hb2.cell (p := ⟨ab, ao + 1, none⟩) la).trans a1
  have a2 := (hb2.cell (p := ⟨ab, ao + 2, none⟩) la).trans a2
  have d0 := (hb2.cell (p := ⟨ab, ao + 3, none⟩) la).trans d0
  have d1 := (hb2.cell (p := ⟨ab, ao + 3 + 1, none⟩) la).trans d1
  have d2 := (hb2.cell (p := ⟨ab, ao + 3 + 2, none⟩) la).trans d2
  go_upto_region 3 with fail
  obtain ⟨W4, hW4⟩ : ∃ W4, W4 = w2.alloc (.cells #[.int .i64 a.k, .int .i64 a.n, .string a.t] 27) := ⟨_, rfl⟩
  rw [← hW4]
  have h4 : Below w2.heap.size w2 W4 := by rw [hW4]; exact (Below.refl _ _).alloc (Nat.le_refl _) _
  have XV : Vu.Box W4 w2.heap.size a := by rw [hW4]; exact Vu.Box.new _ _ _
  clear hW4 n0
  obtain ⟨v0, v1, v2⟩ := XV
  have z4 := h4.size
  have R4 := R2.below h4 (by omega)
  have b4 : Below w.heap.size w W4 := B1.trans ((hb2.trans (h4.mono z2)).mono (by omega))
  have a0 := (h4.cell (p := ⟨ab, ao, none⟩) (show ab < _ by omega)).trans a0
  have a1 := (h4.cell (p := ⟨ab, ao + 1, none⟩) (show ab < _ by omega)).trans a1
  have a2 := (h4.cell (p := ⟨ab, ao + 2, none⟩) (show ab < _ by omega)).trans a2
  have d0 := (h4.cell (p := ⟨ab, ao + 3, none⟩) (show ab < _ by omega)).trans d0
  have d1 := (h4.cell (p := ⟨ab, ao + 3 + 1, none⟩) (show ab < _ by omega)).trans d1
  have d2 := (h4.cell (p := ⟨ab, ao + 3 + 2, none⟩) (show ab < _ by omega)).trans d2
  have r0 : World.cell? W4 ⟨w.heap.size, 0, none⟩ = some (.int .i64 0) := R4.cell 0
  have r1 : World.cell? W4 ⟨w.heap.size, 1, none⟩ = some (.int .i64 0) := R4.cell 1
  have r2 : World.cell? W4 ⟨w.heap.size, 2, none⟩ = some (.string ⟨#[]⟩) := R4.cell 2
  have g0 := R4.frozen 0
  have g1 := R4.frozen 1
  have g2 := R4.frozen 2
  go_wp2_with fail
  refine bodyPost_ret (v := .tuple #[.agg #[.int .i64 0, .int .i64 0, .string ⟨#[]⟩], .string ⟨#[42, 58, 32, 98, 97, 100, 32, 97, 114, 103, 117, 109, 101, 110, 116]⟩]) (by simp [results, Try.results18, go_sem, r0, r1, r2]; (first | done | rfl | exact pure2_cat)) rfl ⟨by rw [HQ.out]; rfl, ?_⟩
  exact ((b4.setCell (by simp) _).setCell (by simp) _).setCell (by simp) _
set_option maxRecDepth 100000 in
set_option maxHeartbeats 4000000 in
theorem sPure2_yy (a b : Vu) (m : List Pq) (A A2 : Option Addr) (c c2 B : Nat) (w : World) (hin : Vu.E.LIn w B A c [a, b]) (hl : Pq.E.LIn w B A2 c2 m) (hB : B ≤ w.heap.size) (oa : a.ok m.length = true) (ob : b.ok m.length = true)  (hk : a.k = 3) (hk2 : b.k = 3) :
    Calls Try.prog 18 #[.int .i64 2, .slice A 2 c, .slice A2 m.length c2] w fun e w' => e = .returned (ansV (outP 2 (rawP 2 [a, b] m))) ∧ Below w.heap.size w w' := by
  obtain ⟨V, hV⟩ : ∃ V, V = outP 2 (rawP 2 [a, b] m) := ⟨_, rfl⟩
  rw [← hV]
  obtain ⟨ab, ao, rfl, hab, a0, a1, a2, _⟩ := Vu.at_ hin (i := 0) (x := a) rfl
  obtain ⟨ab2, ao2, e2, _, d0, d1, d2, _⟩ := Vu.at_ hin (i := 1) (x := b) rfl
  simp only [Option.some.injEq, Addr.mk.injEq] at e2
  obtain ⟨rfl, rfl, _⟩ := e2
  simp only [Nat.zero_mul, Nat.one_mul, Nat.add_zero] at a0 a1 a2 d0 d1 d2
  have e0 : rawP 2 [a, b] m = some (twoN 2 a b) := by simp [rawP, hk, hk2]
  have HN : Hid (∀ u, Calls Try.prog 33 #[.int .i64 2, .int .i64 a.n, .int .i64 b.n] u fun e w' => e = .returned (.tuple #[.agg #[.int .i64 V.1.k, .int .i64 V.1.n, .string V.1.t], .string V.2]) ∧ Below u.heap.size u w') := fun u => by rw [hV, e0]; exact l8Num2 a b (Vu.ok_num oa hk) (Vu.ok_num ob hk2) u
  have HQ : Hid (V = V) := rfl
  have ek : (a.k != 3) = false := by simp [hk]
  have ek2 : (b.k != 3) = false := by simp [hk2]
  clear hk hk2 e0 hV oa ob
  obtain ⟨W1, hW1⟩ : ∃ W1, W1 = w.alloc (.cells #[.int .i64 0, .int .i64 0, .string ⟨#[]⟩] 27) := ⟨_, rfl⟩
  have B1 : Below w.heap.size w W1 := by rw [hW1]; exact (Below.refl _ _).alloc (Nat.le_refl _) _
  have z1 : w.heap.size < W1.heap.size := by rw [hW1]; simp
  have R0 : D.Blk W1 w.heap.size 27 #[.int .i64 0, .int .i64 0, .string ⟨#[]⟩] := by rw [hW1]; exact D.Blk.new _ _ _
  have a0 := (B1.cell (p := ⟨ab, ao, none⟩) (show ab < _ by omega)).trans a0
  have a1 := (B1.cell (p := ⟨ab, ao + 1, none⟩) (show ab < _ by omega)).trans a1
  have a2 := (B1.cell (p := ⟨ab, ao + 2, none⟩) (show ab < _ by omega)).trans a2
  have d0 := (B1.cell (p := ⟨ab, ao + 3, none⟩) (show ab < _ by omega)).trans d0
  have d1 := (B1.cell (p := ⟨ab, ao + 3 + 1, none⟩) (show ab < _ by omega)).trans d1
  have d2 := (B1.cell (p := ⟨ab, ao + 3 + 2, none⟩) (show ab < _ by omega)).trans d2
  have la : ab < W1.heap.size := by omega
  go_enter Try.func18, Try.ntmps18
  go_upto_region 1 with fail
  rw [← hW1]
  clear hW1
  go_wp2_with fail
  (with_reducible refine (sprimN_x W1).mono ?_)
  rintro e w2 ⟨rfl, hn2, hb2⟩
  have n0 : World.cell? w2 ⟨W1.heap.size, 2, none⟩ = some (.string ⟨#[42]⟩) := hn2.cell 2
  clear hn2
  have z2 := hb2.size
  have R2 := R0.below hb2 z1
  have a0 := (hb2.cell (p := ⟨ab, ao, none⟩) la).trans a0
  have a1 := (hb2.cell (p := ⟨ab, ao + 1, none⟩) la).trans a1
  have a2 := (hb2.cell (p := ⟨ab, ao + 2, none⟩) la).trans a2
  have d0 := (hb2.cell (p := ⟨ab, ao + 3, none⟩) la).trans d0
  have d1 := (hb2.cell (p := ⟨ab, ao + 3 + 1, none⟩) la).trans d1
  have d2 := (hb2.cell (p := ⟨ab, ao + 3 + 2, none⟩) la).trans d2
  go_upto_region 3 with fail
  obtain ⟨W4, hW4⟩ : ∃ W4, W4 = w2.alloc (.cells #[.int .i64 a.k, .int .i64 a.n, .string a.t] 27) := ⟨_, rfl⟩
  rw [← hW4]
  have h4 : Below w2.heap.size w2 W4 := by rw [hW4]; exact (Below.refl _ _).alloc (Nat.le_refl _) _
  have XV : Vu.Box W4 w2.heap.size a := by rw [hW4]; exact Vu.Box.new _ _ _
  clear hW4 n0
  obtain ⟨v0, v1, v2⟩ := XV
  have z4 := h4.size
  have R4 := R2.below h4 (by omega)
  have b4 : Below w.heap.size w W4 := B1.trans ((hb2.trans (h4.mono z2)).mono (by omega))
  have a0 := (h4.cell (p := ⟨ab, ao, none⟩) (show ab < _ by omega)).trans a0
  have a1 := (h4.cell (p := ⟨ab, ao + 1, none⟩) (show ab < _ by omega)).trans a1
  have a2 := (h4.cell (p := ⟨ab, ao + 2, none⟩) (show ab < _ by omega)).trans a2
  have d0 := (h4.cell (p := ⟨ab, ao + 3, none⟩) (show ab < _ by omega)).trans d0
  have d1 := (h4.cell (p := ⟨ab, ao + 3 + 1, none⟩) (show ab < _ by omega)).trans d1
  have d2 := (h4.cell (p := ⟨ab, ao + 3 + 2, none⟩) (show ab < _ by omega)).trans d2
  have r0 : World.cell? W4 ⟨w.heap.size, 0, none⟩ = some (.int .i64 0) := R4.cell 0
  have r1 : World.cell? W4 ⟨w.heap.size, 1, none⟩ = some (.int .i64 0) := R4.cell 1
  have r2 : World.cell? W4 ⟨w.heap.size, 2, none⟩ = some (.string ⟨#[]⟩) := R4.cell 2
  have g0 := R4.frozen 0
  have g1 := R4.frozen 1
  have g2 := R4.frozen 2
  go_wp2_with fail
  go_region_with (first | (go_at_call 33; (with_reducible refine (HN.out _).mono ?_); rintro e w5 ⟨rfl, hb5⟩; have hb6 : Below W4.heap.size W4 w5 := below_undrew hb5; have R5 := R4.below hb6 (by omega); have r0 : World.cell? w5 ⟨w.heap.size, 0, none⟩ = some (.int .i64 0) := R5.cell 0; have r1 : World.cell? w5 ⟨w.heap.size, 1, none⟩ = some (.int .i64 0) := R5.cell 1; have r2 : World.cell? w5 ⟨w.heap.size, 2, none⟩ = some (.string ⟨#[]⟩) := R5.cell 2; have g0 := R5.frozen 0; have g1 := R5.frozen 1; have g2 := R5.frozen 2))
  all_goals go_wp2_with fail
  all_goals (have b5 := b4.trans (hb6.mono (by omega)))
  all_goals refine bodyPost_ret (v := .tuple #[.agg #[.int .i64 V.1.k, .int .i64 V.1.n, .string V.1.t], .string V.2]) (by simp [results, Try.results18, go_sem, r0, r1, r2]) rfl ⟨rfl, ?_⟩
  all_goals exact ((b5.setCell (by simp) _).setCell (by simp) _).setCell (by simp) _
set_option maxRecDepth 100000 in
set_option maxHeartbeats 4000000 in
theorem sPure3_nx (a b : Vu) (m : List Pq) (A A2 : Option Addr) (c c2 B : Nat) (w : World) (hin : Vu.E.LIn w B A c [a, b]) (hl : Pq.E.LIn w B A2 c2 m) (hB : B ≤ w.heap.size) (oa : a.ok m.length = true) (ob : b.ok m.length = true)  (hk : ¬ a.k = 3) :
    Calls Try.prog 18 #[.int .i64 3, .slice A 2 c, .slice A2 m.length c2] w fun e w' => e = .returned (ansV (outP 3 (rawP 3 [a, b] m))) ∧ Below w.heap.size w w' := by
  obtain ⟨V, hV⟩ : ∃ V, V = outP 3 (rawP 3 [a, b] m) := ⟨_, rfl⟩
  rw [← hV]
  obtain ⟨ab, ao, rfl, hab, a0, a1, a2, _⟩ := Vu.at_ hin (i := 0) (x := a) rfl
  obtain ⟨ab2, ao2, e2, _, d0, d1, d2, _⟩ := Vu.at_ hin (i := 1) (x := b) rfl
  simp only [Option.some.injEq, Addr.mk.injEq] at e2
  obtain ⟨rfl, rfl, _⟩ := e2
  simp only [Nat.zero_mul, Nat.one_mul, Nat.add_zero] at a0 a1 a2 d0 d1 d2
  have e0 : rawP 3 [a, b] m = none := by simp [rawP, hk]
  have HQ : Hid (V = (.zero, badP 3)) := hV.trans (by rw [e0]; rfl)
  have ek : (a.k != 3) = true := by simpa using hk
  clear hk e0 hV oa ob
  obtain ⟨W1, hW1⟩ : ∃ W1, W1 = w.alloc (.cells #[.int .i64 0, .int .i64 0, .string ⟨#[]⟩] 27) := ⟨_, rfl⟩
  have B1 : Below w.heap.size w W1 := by rw [hW1]; exact (Below.refl _ _).alloc (Nat.le_refl _) _
  have z1 : w.heap.size < W1.heap.size := by rw [hW1]; simp
  have R0 : D.Blk W1 w.heap.size 27 #[.int .i64 0, .int .i64 0, .string ⟨#[]⟩] := by rw [hW1]; exact D.Blk.new _ _ _
  have a0 := (B1.cell (p := ⟨ab, ao, none⟩) (show ab < _ by omega)).trans a0
  have a1 := (B1.cell (p := ⟨ab, ao + 1, none⟩) (show ab < _ by omega)).trans a1
  have a2 := (B1.cell (p := ⟨ab, ao + 2, none⟩) (show ab < _ by omega)).trans a2
  have d0 := (B1.cell (p := ⟨ab, ao + 3, none⟩) (show ab < _ by omega)).trans d0
  have d1 := (B1.cell (p := ⟨ab, ao + 3 + 1, none⟩) (show ab < _ by omega)).trans d1
  have d2 := (B1.cell (p := ⟨ab, ao + 3 + 2, none⟩) (show ab < _ by omega)).trans d2
  have la : ab < W1.heap.size := by omega
  go_enter Try.func18, Try.ntmps18
  go_upto_region 1 with fail
  rw [← hW1]
  clear hW1
  go_wp2_with fail
  (with_reducible refine (sprimN_x W1).mono ?_)
  rintro e w2 ⟨rfl, hn2, hb2⟩
  have n0 : World.cell? w2 ⟨W1.heap.size, 3, none⟩ = some (.string ⟨#[61]⟩) := hn2.cell 3
  clear hn2
  have z2 := hb2.size
  have R2 := R0.below hb2 z1
  have a0 := (hb2.cell (p := ⟨ab, ao, none⟩) la).trans a0
  have a1 := (hb2.cell (p := ⟨ab, ao + 1, none⟩) la).trans a1
  have a2 := (hb2.cell (p := ⟨ab, ao + 2, none⟩) la).trans a2
  have d0 := (hb2.cell (p := ⟨ab, ao + 3, none⟩) la).trans d0
  have d1 := (hb2.cell (p := ⟨ab, ao + 3 + 1, none⟩) la).trans d1
  have d2 := (hb2.cell (p := ⟨ab, ao + 3 + 2, none⟩) la).trans d2
  go_upto_region 3 with fail
  obtain ⟨W4, hW4⟩ : ∃ W4, W4 = w2.alloc (.cells #[.int .i64 a.k, .int .i64 a.n, .string a.t] 27) := ⟨_, rfl⟩
  rw [← hW4]
  have h4 : Below w2.heap.size w2 W4 := by rw [hW4]; exact (Below.refl _ _).alloc (Nat.le_refl _) _
  have XV : Vu.Box W4 w2.heap.size a := by rw [hW4]; exact Vu.Box.new _ _ _
  clear hW4 n0
  obtain ⟨v0, v1, v2⟩ := XV
  have z4 := h4.size
  have R4 := R2.below h4 (by omega)
  have b4 : Below w.heap.size w W4 := B1.trans ((hb2.trans (h4.mono z2)).mono (by omega))
  have a0 := (h4.cell (p := ⟨ab, ao, none⟩) (show ab < _ by omega)).trans a0
  have a1 := (h4.cell (p := ⟨ab, ao + 1, none⟩) (show ab < _ by omega)).trans a1
  have a2 := (h4.cell (p := ⟨ab, ao + 2, none⟩) (show ab < _ by omega)).trans a2
  have d0 := (h4.cell (p := ⟨ab, ao + 3, none⟩) (show ab < _ by omega)).trans d0
  have d1 := (h4.cell (p := ⟨ab, ao + 3 + 1, none⟩) (show ab < _ by omega)).trans d1
  have d2 := (h4.cell (p := ⟨ab, ao + 3 + 2, none⟩) (show ab < _ by omega)).trans d2
  have r0 : World.cell? W4 ⟨w.heap.size, 0, none⟩ = some (.int .i64 0) := R4.cell 0
  have r1 : World.cell? W4 ⟨w.heap.size, 1, none⟩ = some (.int .i64 0) := R4.cell 1
  have r2 : World.cell? W4 ⟨w.heap.size, 2, none⟩ = some (.string ⟨#[]⟩) := R4.cell 2
  have g0 := R4.frozen 0
  have g1 := R4.frozen 1
  have g2 := R4.frozen 2
  go_wp2_with fail
  refine bodyPost_ret (v := .tuple #[.agg #[.int .i64 0, .int .i64 0, .string ⟨#[]⟩], .string ⟨#[61, 58, 32, 98, 97, 100, 32, 97, 114, 103, 117, 109, 101, 110, 116]⟩]) (by simp [results, Try.results18, go_sem, r0, r1, r2]; (first | done | rfl | exact pure3_cat)) rfl ⟨by rw [HQ.out]; rfl, ?_⟩
  exact ((b4.setCell (by simp) _).setCell (by simp) _).setCell (by simp) _
set_option maxRecDepth 100000 in
set_option maxHeartbeats 4000000 in
theorem sPure3_yn (a b : Vu) (m : List Pq) (A A2 : Option Addr) (c c2 B : Nat) (w : World) (hin : Vu.E.LIn w B A c [a, b]) (hl : Pq.E.LIn w B A2 c2 m) (hB : B ≤ w.heap.size) (oa : a.ok m.length = true) (ob : b.ok m.length = true)  (hk : a.k = 3) (hk2 : ¬ b.k = 3) :
    Calls Try.prog 18 #[.int .i64 3, .slice A 2 c, .slice A2 m.length c2] w fun e w' => e = .returned (ansV (outP 3 (rawP 3 [a, b] m))) ∧ Below w.heap.size w w' := by
  obtain ⟨V, hV⟩ : ∃ V, V = outP 3 (rawP 3 [a, b] m) := ⟨_, rfl⟩
  rw [← hV]
  obtain ⟨ab, ao, rfl, hab, a0, a1, a2, _⟩ := Vu.at_ hin (i := 0) (x := a) rfl
  obtain ⟨ab2, ao2, e2, _, d0, d1, d2, _⟩ := Vu.at_ hin (i := 1) (x := b) rfl
  simp only [Option.some.injEq, Addr.mk.injEq] at e2
  obtain ⟨rfl, rfl, _⟩ := e2
  simp only [Nat.zero_mul, Nat.one_mul, Nat.add_zero] at a0 a1 a2 d0 d1 d2
  have e0 : rawP 3 [a, b] m = none := by simp [rawP, hk2]
  have HQ : Hid (V = (.zero, badP 3)) := hV.trans (by rw [e0]; rfl)
  have ek : (a.k != 3) = false := by simp [hk]
  have ek2 : (b.k != 3) = true := by simpa using hk2
  clear hk2
  clear hk e0 hV oa ob
  obtain ⟨W1, hW1⟩ : ∃ W1, W1 = w.alloc (.cells #[.int .i64 0, .int .i64 0, .string ⟨#[]⟩] 27) := ⟨_, rfl⟩
  have B1 : Below w.heap.size w W1 := by rw [hW1]; exact (Below.refl _ _).alloc (Nat.le_refl _) _
  have z1 : w.heap.size < W1.heap.size := by rw [hW1]; simp
  have R0 : D.Blk W1 w.heap.size 27 #[.int .i64 0, .int .i64 0, .string ⟨#[]⟩] := by rw [hW1]; exact D.Blk.new _ _ _
  have a0 := (B1.cell (p := ⟨ab, ao, none⟩) (show ab < _ by omega)).trans a0
  have a1 := (B1.cell (p := ⟨ab, ao + 1, none⟩) (show ab < _ by omega)).trans a1
  have a2 := (B1.cell (p := ⟨ab, ao + 2, none⟩) (show ab < _ by omega)).trans a2
  have d0 := (B1.cell (p := ⟨ab, ao + 3, none⟩) (show ab < _ by omega)).trans d0
  have d1 := (B1.cell (p := ⟨ab, ao + 3 + 1, none⟩) (show ab < _ by omega)).trans d1
  have d2 := (B1.cell (p := ⟨ab, ao + 3 + 2, none⟩) (show ab < _ by omega)).trans d2
  have la : ab < W1.heap.size := by omega
  go_enter Try.func18, Try.ntmps18
  go_upto_region 1 with fail
  rw [← hW1]
  clear hW1
  go_wp2_with fail
  (with_reducible refine (sprimN_x W1).mono ?_)
  rintro e w2 ⟨rfl, hn2, hb2⟩
  have n0 : World.cell? w2 ⟨W1.heap.size, 3, none⟩ = some (.string ⟨#[61]⟩) := hn2.cell 3
  clear hn2
  have z2 := hb2.size
  have R2 := R0.below hb2 z1
  have a0 := (hb2.cell (p := ⟨ab, ao, none⟩) la).trans a0
  have a1 := (hb2.cell (p := ⟨ab, ao + 1, none⟩) la).trans a1
  have a2 := (hb2.cell (p := ⟨ab, ao + 2, none⟩) la).trans a2
  have d0 := (hb2.cell (p := ⟨ab, ao + 3, none⟩) la).trans d0
  have d1 := (hb2.cell (p := ⟨ab, ao + 3 + 1, none⟩) la).trans d1
  have d2 := (hb2.cell (p := ⟨ab, ao + 3 + 2, none⟩) la).trans d2
  go_upto_region 3 with fail
  obtain ⟨W4, hW4⟩ : ∃ W4, W4 = w2.alloc (.cells #[.int .i64 a.k, .int .i64 a.n, .string a.t] 27) := ⟨_, rfl⟩
  rw [← hW4]
  have h4 : Below w2.heap.size w2 W4 := by rw [hW4]; exact (Below.refl _ _).alloc (Nat.le_refl _) _
  have XV : Vu.Box W4 w2.heap.size a := by rw [hW4]; exact Vu.Box.new _ _ _
  clear hW4 n0
  obtain ⟨v0, v1, v2⟩ := XV
  have z4 := h4.size
  have R4 := R2.below h4 (by omega)
  have b4 : Below w.heap.size w W4 := B1.trans ((hb2.trans (h4.mono z2)).mono (by omega))
  have a0 := (h4.cell (p := ⟨ab, ao, none⟩) (show ab < _ by omega)).trans a0
  have a1 := (h4.cell (p := ⟨ab, ao + 1, none⟩) (show ab < _ by omega)).trans a1
  have a2 := (h4.cell (p := ⟨ab, ao + 2, none⟩) (show ab < _ by omega)).trans a2
  have d0 := (h4.cell (p := ⟨ab, ao + 3, none⟩) (show ab < _ by omega)).trans d0
  have d1 := (h4.cell (p := ⟨ab, ao + 3 + 1, none⟩) (show ab < _ by omega)).trans d1
  have d2 := (h4.cell (p := ⟨ab, ao + 3 + 2, none⟩) (show ab < _ by omega)).trans d2
  have r0 : World.cell? W4 ⟨w.heap.size, 0, none⟩ = some (.int .i64 0) := R4.cell 0
  have r1 : World.cell? W4 ⟨w.heap.size, 1, none⟩ = some (.int .i64 0) := R4.cell 1
  have r2 : World.cell? W4 ⟨w.heap.size, 2, none⟩ = some (.string ⟨#[]⟩) := R4.cell 2
  have g0 := R4.frozen 0
  have g1 := R4.frozen 1
  have g2 := R4.frozen 2
  go_wp2_with fail
  refine bodyPost_ret (v := .tuple #[.agg #[.int .i64 0, .int .i64 0, .string ⟨#[]⟩], .string ⟨#[61, 58, 32, 98, 97, 100, 32, 97, 114, 103, 117, 109, 101, 110, 116]⟩]) (by simp [results, Try.results18, go_sem, r0, r1, r2]; (first | done | rfl | exact pure3_cat)) rfl ⟨by rw [HQ.out]; rfl, ?_⟩
  exact ((b4.setCell (by simp) _).setCell (by simp) _).setCell (by simp) _
set_option maxRecDepth 100000 in
set_option maxHeartbeats 4000000 in
theorem sPure3_yy (a b : Vu) (m : List Pq) (A A2 : Option Addr) (c c2 B : Nat) (w : World) (hin : Vu.E.LIn w B A c [a, b]) (hl : Pq.E.LIn w B A2 c2 m) (hB : B ≤ w.heap.size) (oa : a.ok m.length = true) (ob : b.ok m.length = true)  (hk : a.k = 3) (hk2 : b.k = 3) :
    Calls Try.prog 18 #[.int .i64 3, .slice A 2 c, .slice A2 m.length c2] w fun e w' => e = .returned (ansV (outP 3 (rawP 3 [a, b] m))) ∧ Below w.heap.size w w' := by
  obtain ⟨V, hV⟩ : ∃ V, V = outP 3 (rawP 3 [a, b] m) := ⟨_, rfl⟩
  rw [← hV]
  obtain ⟨ab, ao, rfl, hab, a0, a1, a2, _⟩ := Vu.at_ hin (i := 0) (x := a) rfl
  obtain ⟨ab2, ao2, e2, _, d0, d1, d2, _⟩ := Vu.at_ hin (i := 1) (x := b) rfl
  simp only [Option.some.injEq, Addr.mk.injEq] at e2
  obtain ⟨rfl, rfl, _⟩ := e2
  simp only [Nat.zero_mul, Nat.one_mul, Nat.add_zero] at a0 a1 a2 d0 d1 d2
  have e0 : rawP 3 [a, b] m = some (twoN 3 a b) := by simp [rawP, hk, hk2]
  have HN : Hid (∀ u, Calls Try.prog 33 #[.int .i64 3, .int .i64 a.n, .int .i64 b.n] u fun e w' => e = .returned (.tuple #[.agg #[.int .i64 V.1.k, .int .i64 V.1.n, .string V.1.t], .string V.2]) ∧ Below u.heap.size u w') := fun u => by rw [hV, e0]; exact l8Num3 a b (Vu.ok_num oa hk) (Vu.ok_num ob hk2) u
  have HQ : Hid (V = V) := rfl
  have ek : (a.k != 3) = false := by simp [hk]
  have ek2 : (b.k != 3) = false := by simp [hk2]
  clear hk hk2 e0 hV oa ob
  obtain ⟨W1, hW1⟩ : ∃ W1, W1 = w.alloc (.cells #[.int .i64 0, .int .i64 0, .string ⟨#[]⟩] 27) := ⟨_, rfl⟩
  have B1 : Below w.heap.size w W1 := by rw [hW1]; exact (Below.refl _ _).alloc (Nat.le_refl _) _
  have z1 : w.heap.size < W1.heap.size := by rw [hW1]; simp
  have R0 : D.Blk W1 w.heap.size 27 #[.int .i64 0, .int .i64 0, .string ⟨#[]⟩] := by rw [hW1]; exact D.Blk.new _ _ _
  have a0 := (B1.cell (p := ⟨ab, ao, none⟩) (show ab < _ by omega)).trans a0
  have a1 := (B1.cell (p := ⟨ab, ao + 1, none⟩) (show ab < _ by omega)).trans a1
  have a2 := (B1.cell (p := ⟨ab, ao + 2, none⟩) (show ab < _ by omega)).trans a2
  have d0 := (B1.cell (p := ⟨ab, ao + 3, none⟩) (show ab < _ by omega)).trans d0
  have d1 := (B1.cell (p := ⟨ab, ao + 3 + 1, none⟩) (show ab < _ by omega)).trans d1
  have d2 := (B1.cell (p := ⟨ab, ao + 3 + 2, none⟩) (show ab < _ by omega)).trans d2
  have la : ab < W1.heap.size := by omega
  go_enter Try.func18, Try.ntmps18
  go_upto_region 1 with fail
  rw [← hW1]
  clear hW1
  go_wp2_with fail
  (with_reducible refine (sprimN_x W1).mono ?_)
  rintro e w2 ⟨rfl, hn2, hb2⟩
  have n0 : World.cell? w2 ⟨W1.heap.size, 3, none⟩ = some (.string ⟨#[61]⟩) := hn2.cell 3
  clear hn2
  have z2 := hb2.size
  have R2 := R0.below hb2 z1
  have a0 := (hb2.cell (p := ⟨ab, ao, none⟩) la).trans a0
  have a1 := (hb2.cell (p := ⟨ab, ao + 1, none⟩) la).trans a1
  have a2 := (hb2.cell (p := ⟨ab, ao + 2, none⟩) la).trans a2
  have d0 := (hb2.cell (p := ⟨ab, ao + 3, none⟩) la).trans d0
  have d1 := (hb2.cell (p := ⟨ab, ao + 3 + 1, none⟩) la).trans d1
  have d2 := (hb2.cell (p := ⟨ab, ao + 3 + 2, none⟩) la).trans d2
  go_upto_region 3 with fail
  obtain ⟨W4, hW4⟩ : ∃ W4, W4 = w2.alloc (.cells #[.int .i64 a.k, .int .i64 a.n, .string a.t] 27) := ⟨_, rfl⟩
  rw [← hW4]
  have h4 : Below w2.heap.size w2 W4 := by rw [hW4]; exact (Below.refl _ _).alloc (Nat.le_refl _) _
  have XV : Vu.Box W4 w2.heap.size a := by rw [hW4]; exact Vu.Box.new _ _ _
  clear hW4 n0
  obtain ⟨v0, v1, v2⟩ := XV
  have z4 := h4.size
  have R4 := R2.below h4 (by omega)
  have b4 : Below w.heap.size w W4 := B1.trans ((hb2.trans (h4.mono z2)).mono (by omega))
  have a0 := (h4.cell (p := ⟨ab, ao, none⟩) (show ab < _ by omega)).trans a0
  have a1 := (h4.cell (p := ⟨ab, ao + 1, none⟩) (show ab < _ by omega)).trans a1
  have a2 := (h4.cell (p := ⟨ab, ao + 2, none⟩) (show ab < _ by omega)).trans a2
  have d0 := (h4.cell (p := ⟨ab, ao + 3, none⟩) (show ab < _ by omega)).trans d0
  have d1 := (h4.cell (p := ⟨ab, ao + 3 + 1, none⟩) (show ab < _ by omega)).trans d1
  have d2 := (h4.cell (p := ⟨ab, ao + 3 + 2, none⟩) (show ab < _ by omega)).trans d2
  have r0 : World.cell? W4 ⟨w.heap.size, 0, none⟩ = some (.int .i64 0) := R4.cell 0
  have r1 : World.cell? W4 ⟨w.heap.size, 1, none⟩ = some (.int .i64 0) := R4.cell 1
  have r2 : World.cell? W4 ⟨w.heap.size, 2, none⟩ = some (.string ⟨#[]⟩) := R4.cell 2
  have g0 := R4.frozen 0
  have g1 := R4.frozen 1
  have g2 := R4.frozen 2
  go_wp2_with fail
  go_region_with (first | (go_at_call 33; (with_reducible refine (HN.out _).mono ?_); rintro e w5 ⟨rfl, hb5⟩; have hb6 : Below W4.heap.size W4 w5 := below_undrew hb5; have R5 := R4.below hb6 (by omega); have r0 : World.cell? w5 ⟨w.heap.size, 0, none⟩ = some (.int .i64 0) := R5.cell 0; have r1 : World.cell? w5 ⟨w.heap.size, 1, none⟩ = some (.int .i64 0) := R5.cell 1; have r2 : World.cell? w5 ⟨w.heap.size, 2, none⟩ = some (.string ⟨#[]⟩) := R5.cell 2; have g0 := R5.frozen 0; have g1 := R5.frozen 1; have g2 := R5.frozen 2))
  all_goals go_wp2_with fail
  all_goals (have b5 := b4.trans (hb6.mono (by omega)))
  all_goals refine bodyPost_ret (v := .tuple #[.agg #[.int .i64 V.1.k, .int .i64 V.1.n, .string V.1.t], .string V.2]) (by simp [results, Try.results18, go_sem, r0, r1, r2]) rfl ⟨rfl, ?_⟩
  all_goals exact ((b5.setCell (by simp) _).setCell (by simp) _).setCell (by simp) _
end Go.Proofs.Ytnldlbglgalbaab
