/-
  The rules' closures of pairs and of numbers (written by gen/app3.py).
-/
import Derived.Test.YtnldlbglgalbaabApRule
namespace Go.Proofs.Ytnldlbglgalbaab
open Go.RowKit
set_option maxRecDepth 100000 in
set_option maxHeartbeats 4000000 in
theorem rule6_no (a : Vu) (A : Option Addr) (c : Nat) (P : Value) (g B : Nat) (w : World) (hin : Vu.E.LIn w B A c [a]) (hB : B ≤ w.heap.size) (hk : ¬ a.k = 7) :
    Calls Try.prog 67 #[.slice A 1 c, P, .pointer (some ⟨g, 0, none⟩)] w fun e w' => e = .returned (.tuple #[.agg #[.int .i64 0, .int .i64 0, .string ⟨#[]⟩], .bool false]) ∧ Below w.heap.size w w' := by
  obtain ⟨ab, ao, rfl, hab, a0, a1, a2, _⟩ := Vu.at_ hin (i := 0) (x := a) rfl
  simp only [Nat.zero_mul, Nat.add_zero] at a0 a1 a2
  obtain ⟨W1, hW1⟩ : ∃ W1, W1 = w.alloc (.cells #[.int .i64 0, .int .i64 0, .string ⟨#[]⟩] 27) := ⟨_, rfl⟩
  have B1 : Below w.heap.size w W1 := by rw [hW1]; exact (Below.refl _ _).alloc (Nat.le_refl _) _
  have z1 : w.heap.size < W1.heap.size := by rw [hW1]; simp
  have R0 : D.Blk W1 w.heap.size 27 #[.int .i64 0, .int .i64 0, .string ⟨#[]⟩] := by rw [hW1]; exact D.Blk.new _ _ _
  have a0 := (B1.cell (p := ⟨ab, ao, none⟩) (show ab < _ by omega)).trans a0
  have ek : (a.k != 7) = true := by simpa using hk
  clear hk
  go_enter Try.func67, Try.ntmps67
  go_upto_region 1 with fail
  rw [← hW1]
  clear hW1
  have r0 : World.cell? W1 ⟨w.heap.size, 0, none⟩ = some (.int .i64 0) := R0.cell 0; have r1 : World.cell? W1 ⟨w.heap.size, 1, none⟩ = some (.int .i64 0) := R0.cell 1; have r2 : World.cell? W1 ⟨w.heap.size, 2, none⟩ = some (.string ⟨#[]⟩) := R0.cell 2; have g0 := R0.frozen 0; have g1 := R0.frozen 1; have g2 := R0.frozen 2
  go_wp2_with fail
  refine bodyPost_ret (v := .tuple #[.agg #[.int .i64 0, .int .i64 0, .string ⟨#[]⟩], .bool false]) (by simp [results, Try.results67, go_sem, r0, r1, r2]) rfl ⟨rfl, ?_⟩
  exact ((B1.setCell (by simp) _).setCell (by simp) _).setCell (by simp) _
set_option maxRecDepth 100000 in
set_option maxHeartbeats 4000000 in
theorem rule6_yes (a : Vu) (A : Option Addr) (c : Nat) (A2 : Option Addr) (c2 : Nat) (l : List Pq) (p : Pq) (g B : Nat) (w : World) (hin : Vu.E.LIn w B A c [a]) (hl : Pq.E.LIn w B A2 c2 l) (hB : B ≤ w.heap.size) (hg : g < w.heap.size) (hf : w.cell? ⟨g, 0, none⟩ = some (.func (.func 57) #[] #[])) (hk : a.k = 7) (g1 : 0 ≤ a.n) (g2 : a.n < (l.length : Int)) (hp : l[a.n.toNat]? = some p) :
    Calls Try.prog 67 #[.slice A 1 c, .slice A2 l.length c2, .pointer (some ⟨g, 0, none⟩)] w fun e w' => e = .returned (.tuple #[.agg #[.int .i64 p.h.k, .int .i64 p.h.n, .string p.h.t], .bool true]) ∧ Below w.heap.size w w' := by
  obtain ⟨ab, ao, rfl, hab, a0, a1, a2, _⟩ := Vu.at_ hin (i := 0) (x := a) rfl
  obtain ⟨pb, po, rfl, hpb, p0, p1, p2, p3, p4, p5, _⟩ := Pq.at_ hl (i := a.n.toNat) (x := p) hp
  simp only [Nat.zero_mul, Nat.add_zero] at a0 a1 a2
  have hlc := hl.cap
  obtain ⟨W1, hW1⟩ : ∃ W1, W1 = w.alloc (.cells #[.int .i64 0, .int .i64 0, .string ⟨#[]⟩] 27) := ⟨_, rfl⟩
  have B1 : Below w.heap.size w W1 := by rw [hW1]; exact (Below.refl _ _).alloc (Nat.le_refl _) _
  have z1 : w.heap.size < W1.heap.size := by rw [hW1]; simp
  have R0 : D.Blk W1 w.heap.size 27 #[.int .i64 0, .int .i64 0, .string ⟨#[]⟩] := by rw [hW1]; exact D.Blk.new _ _ _
  have ek : (a.k != 7) = false := by simp [hk]
  clear hk hp
  have f0 := hf
  have f0 := (B1.cell (p := ⟨g, 0, none⟩) (show g < _ by omega)).trans f0
  have a0 := (B1.cell (p := ⟨ab, ao, none⟩) (show ab < _ by omega)).trans a0
  have a1 := (B1.cell (p := ⟨ab, ao + 1, none⟩) (show ab < _ by omega)).trans a1
  have a2 := (B1.cell (p := ⟨ab, ao + 2, none⟩) (show ab < _ by omega)).trans a2
  have p0 := (B1.cell (p := ⟨pb, po + a.n.toNat * 6, none⟩) (show pb < _ by omega)).trans p0
  have p1 := (B1.cell (p := ⟨pb, po + a.n.toNat * 6 + 1, none⟩) (show pb < _ by omega)).trans p1
  have p2 := (B1.cell (p := ⟨pb, po + a.n.toNat * 6 + 2, none⟩) (show pb < _ by omega)).trans p2
  have p3 := (B1.cell (p := ⟨pb, po + a.n.toNat * 6 + 3, none⟩) (show pb < _ by omega)).trans p3
  have p4 := (B1.cell (p := ⟨pb, po + a.n.toNat * 6 + 4, none⟩) (show pb < _ by omega)).trans p4
  have p5 := (B1.cell (p := ⟨pb, po + a.n.toNat * 6 + 5, none⟩) (show pb < _ by omega)).trans p5
  have la : ab < W1.heap.size := by omega
  have lg : g < W1.heap.size := by omega
  have lp : pb < W1.heap.size := by omega
  have nz : ab ≠ w.heap.size := by omega
  have ng : g ≠ w.heap.size := by omega
  have np : pb ≠ w.heap.size := by omega
  have HT : Hid (∀ u, Calls Try.prog 57 #[.agg #[.int .i64 p.h.k, .int .i64 p.h.n, .string p.h.t, .int .i64 p.u.k, .int .i64 p.u.n, .string p.u.t]] u fun e w' => e = .returned (.agg #[.int .i64 p.h.k, .int .i64 p.h.n, .string p.h.t]) ∧ Below u.heap.size u w') := fun u => op6_any p u
  clear hf
  go_enter Try.func67, Try.ntmps67
  go_upto_region 1 with fail
  rw [← hW1]
  clear hW1
  go_wp2_with fail
  have tok0 : True := trivial
  go_region_held3 (fun w' => w'.cell? ⟨g, 0, none⟩ = some (.func (.func 57) #[] #[]) ∧ w'.cell? ⟨ab, ao, none⟩ = some (.int .i64 a.k) ∧ w'.cell? ⟨ab, ao + 1, none⟩ = some (.int .i64 a.n) ∧ w'.cell? ⟨ab, ao + 2, none⟩ = some (.string a.t) ∧ w'.cell? ⟨pb, po + a.n.toNat * 6, none⟩ = some (.int .i64 p.h.k) ∧ w'.cell? ⟨pb, po + a.n.toNat * 6 + 1, none⟩ = some (.int .i64 p.h.n) ∧ w'.cell? ⟨pb, po + a.n.toNat * 6 + 2, none⟩ = some (.string p.h.t) ∧ w'.cell? ⟨pb, po + a.n.toNat * 6 + 3, none⟩ = some (.int .i64 p.u.k) ∧ w'.cell? ⟨pb, po + a.n.toNat * 6 + 4, none⟩ = some (.int .i64 p.u.n) ∧ w'.cell? ⟨pb, po + a.n.toNat * 6 + 5, none⟩ = some (.string p.u.t)) (first | go_keep | (refine ⟨?_, ?_, ?_, ?_, ?_, ?_, ?_, ?_, ?_, ?_⟩ <;> (first | (rw [far3 nz]; assumption) | (rw [far3 ng]; assumption) | (rw [far3 np]; assumption)))) (first
    | (go_at_call 57; have _t := tok0; (with_reducible refine (HT.out _).mono ?_); rintro e w2 ⟨rfl, hb2⟩; clear tok0; have h2 : Below W1.heap.size W1 w2 := below_undrew hb2; have z2 := h2.size; have R3 := R0.below h2 z1; have r0 : World.cell? w2 ⟨w.heap.size, 0, none⟩ = some (.int .i64 0) := R3.cell 0; have r1 : World.cell? w2 ⟨w.heap.size, 1, none⟩ = some (.int .i64 0) := R3.cell 1; have r2 : World.cell? w2 ⟨w.heap.size, 2, none⟩ = some (.string ⟨#[]⟩) := R3.cell 2; have g0 := R3.frozen 0; have g1 := R3.frozen 1; have g2 := R3.frozen 2; have f0 := (h2.cell (p := ⟨g, 0, none⟩) lg).trans f0; have a0 := (h2.cell (p := ⟨ab, ao, none⟩) la).trans a0; have a1 := (h2.cell (p := ⟨ab, ao + 1, none⟩) la).trans a1; have a2 := (h2.cell (p := ⟨ab, ao + 2, none⟩) la).trans a2; have p0 := (h2.cell (p := ⟨pb, po + a.n.toNat * 6, none⟩) lp).trans p0; have p1 := (h2.cell (p := ⟨pb, po + a.n.toNat * 6 + 1, none⟩) lp).trans p1; have p2 := (h2.cell (p := ⟨pb, po + a.n.toNat * 6 + 2, none⟩) lp).trans p2; have p3 := (h2.cell (p := ⟨pb, po + a.n.toNat * 6 + 3, none⟩) lp).trans p3; have p4 := (h2.cell (p := ⟨pb, po + a.n.toNat * 6 + 4, none⟩) lp).trans p4; have p5 := (h2.cell (p := ⟨pb, po + a.n.toNat * 6 + 5, none⟩) lp).trans p5))
  all_goals go_wp2_with fail
  all_goals refine bodyPost_ret (v := .tuple #[.agg #[.int .i64 p.h.k, .int .i64 p.h.n, .string p.h.t], .bool true]) (by simp [results, Try.results67, go_sem, r0, r1, r2]) rfl ⟨rfl, ?_⟩
  all_goals (have b3 := B1.trans (h2.mono (by omega)))
  all_goals exact ((b3.setCell (by simp) _).setCell (by simp) _).setCell (by simp) _
set_option maxRecDepth 100000 in
set_option maxHeartbeats 4000000 in
theorem rule7_yes (a : Vu) (A : Option Addr) (c : Nat) (A2 : Option Addr) (c2 : Nat) (l : List Pq) (p : Pq) (g B : Nat) (w : World) (hin : Vu.E.LIn w B A c [a]) (hl : Pq.E.LIn w B A2 c2 l) (hB : B ≤ w.heap.size) (hg : g < w.heap.size) (hf : w.cell? ⟨g, 0, none⟩ = some (.func (.func 58) #[] #[])) (hk : a.k = 7) (g1 : 0 ≤ a.n) (g2 : a.n < (l.length : Int)) (hp : l[a.n.toNat]? = some p) :
    Calls Try.prog 67 #[.slice A 1 c, .slice A2 l.length c2, .pointer (some ⟨g, 0, none⟩)] w fun e w' => e = .returned (.tuple #[.agg #[.int .i64 p.u.k, .int .i64 p.u.n, .string p.u.t], .bool true]) ∧ Below w.heap.size w w' := by
  obtain ⟨ab, ao, rfl, hab, a0, a1, a2, _⟩ := Vu.at_ hin (i := 0) (x := a) rfl
  obtain ⟨pb, po, rfl, hpb, p0, p1, p2, p3, p4, p5, _⟩ := Pq.at_ hl (i := a.n.toNat) (x := p) hp
  simp only [Nat.zero_mul, Nat.add_zero] at a0 a1 a2
  have hlc := hl.cap
  obtain ⟨W1, hW1⟩ : ∃ W1, W1 = w.alloc (.cells #[.int .i64 0, .int .i64 0, .string ⟨#[]⟩] 27) := ⟨_, rfl⟩
  have B1 : Below w.heap.size w W1 := by rw [hW1]; exact (Below.refl _ _).alloc (Nat.le_refl _) _
  have z1 : w.heap.size < W1.heap.size := by rw [hW1]; simp
  have R0 : D.Blk W1 w.heap.size 27 #[.int .i64 0, .int .i64 0, .string ⟨#[]⟩] := by rw [hW1]; exact D.Blk.new _ _ _
  have ek : (a.k != 7) = false := by simp [hk]
  clear hk hp
  have f0 := hf
  have f0 := (B1.cell (p := ⟨g, 0, none⟩) (show g < _ by omega)).trans f0
  have a0 := (B1.cell (p := ⟨ab, ao, none⟩) (show ab < _ by omega)).trans a0
  have a1 := (B1.cell (p := ⟨ab, ao + 1, none⟩) (show ab < _ by omega)).trans a1
  have a2 := (B1.cell (p := ⟨ab, ao + 2, none⟩) (show ab < _ by omega)).trans a2
  have p0 := (B1.cell (p := ⟨pb, po + a.n.toNat * 6, none⟩) (show pb < _ by omega)).trans p0
  have p1 := (B1.cell (p := ⟨pb, po + a.n.toNat * 6 + 1, none⟩) (show pb < _ by omega)).trans p1
  have p2 := (B1.cell (p := ⟨pb, po + a.n.toNat * 6 + 2, none⟩) (show pb < _ by omega)).trans p2
  have p3 := (B1.cell (p := ⟨pb, po + a.n.toNat * 6 + 3, none⟩) (show pb < _ by omega)).trans p3
  have p4 := (B1.cell (p := ⟨pb, po + a.n.toNat * 6 + 4, none⟩) (show pb < _ by omega)).trans p4
  have p5 := (B1.cell (p := ⟨pb, po + a.n.toNat * 6 + 5, none⟩) (show pb < _ by omega)).trans p5
  have la : ab < W1.heap.size := by omega
  have lg : g < W1.heap.size := by omega
  have lp : pb < W1.heap.size := by omega
  have nz : ab ≠ w.heap.size := by omega
  have ng : g ≠ w.heap.size := by omega
  have np : pb ≠ w.heap.size := by omega
  have HT : Hid (∀ u, Calls Try.prog 58 #[.agg #[.int .i64 p.h.k, .int .i64 p.h.n, .string p.h.t, .int .i64 p.u.k, .int .i64 p.u.n, .string p.u.t]] u fun e w' => e = .returned (.agg #[.int .i64 p.u.k, .int .i64 p.u.n, .string p.u.t]) ∧ Below u.heap.size u w') := fun u => op7_any p u
  clear hf
  go_enter Try.func67, Try.ntmps67
  go_upto_region 1 with fail
  rw [← hW1]
  clear hW1
  go_wp2_with fail
  have tok0 : True := trivial
  go_region_held3 (fun w' => w'.cell? ⟨g, 0, none⟩ = some (.func (.func 58) #[] #[]) ∧ w'.cell? ⟨ab, ao, none⟩ = some (.int .i64 a.k) ∧ w'.cell? ⟨ab, ao + 1, none⟩ = some (.int .i64 a.n) ∧ w'.cell? ⟨ab, ao + 2, none⟩ = some (.string a.t) ∧ w'.cell? ⟨pb, po + a.n.toNat * 6, none⟩ = some (.int .i64 p.h.k) ∧ w'.cell? ⟨pb, po + a.n.toNat * 6 + 1, none⟩ = some (.int .i64 p.h.n) ∧ w'.cell? ⟨pb, po + a.n.toNat * 6 + 2, none⟩ = some (.string p.h.t) ∧ w'.cell? ⟨pb, po + a.n.toNat * 6 + 3, none⟩ = some (.int .i64 p.u.k) ∧ w'.cell? ⟨pb, po + a.n.toNat * 6 + 4, none⟩ = some (.int .i64 p.u.n) ∧ w'.cell? ⟨pb, po + a.n.toNat * 6 + 5, none⟩ = some (.string p.u.t)) (first | go_keep | (refine ⟨?_, ?_, ?_, ?_, ?_, ?_, ?_, ?_, ?_, ?_⟩ <;> (first | (rw [far3 nz]; assumption) | (rw [far3 ng]; assumption) | (rw [far3 np]; assumption)))) (first
    | (go_at_call 58; have _t := tok0; (with_reducible refine (HT.out _).mono ?_); rintro e w2 ⟨rfl, hb2⟩; clear tok0; have h2 : Below W1.heap.size W1 w2 := below_undrew hb2; have z2 := h2.size; have R3 := R0.below h2 z1; have r0 : World.cell? w2 ⟨w.heap.size, 0, none⟩ = some (.int .i64 0) := R3.cell 0; have r1 : World.cell? w2 ⟨w.heap.size, 1, none⟩ = some (.int .i64 0) := R3.cell 1; have r2 : World.cell? w2 ⟨w.heap.size, 2, none⟩ = some (.string ⟨#[]⟩) := R3.cell 2; have g0 := R3.frozen 0; have g1 := R3.frozen 1; have g2 := R3.frozen 2; have f0 := (h2.cell (p := ⟨g, 0, none⟩) lg).trans f0; have a0 := (h2.cell (p := ⟨ab, ao, none⟩) la).trans a0; have a1 := (h2.cell (p := ⟨ab, ao + 1, none⟩) la).trans a1; have a2 := (h2.cell (p := ⟨ab, ao + 2, none⟩) la).trans a2; have p0 := (h2.cell (p := ⟨pb, po + a.n.toNat * 6, none⟩) lp).trans p0; have p1 := (h2.cell (p := ⟨pb, po + a.n.toNat * 6 + 1, none⟩) lp).trans p1; have p2 := (h2.cell (p := ⟨pb, po + a.n.toNat * 6 + 2, none⟩) lp).trans p2; have p3 := (h2.cell (p := ⟨pb, po + a.n.toNat * 6 + 3, none⟩) lp).trans p3; have p4 := (h2.cell (p := ⟨pb, po + a.n.toNat * 6 + 4, none⟩) lp).trans p4; have p5 := (h2.cell (p := ⟨pb, po + a.n.toNat * 6 + 5, none⟩) lp).trans p5))
  all_goals go_wp2_with fail
  all_goals refine bodyPost_ret (v := .tuple #[.agg #[.int .i64 p.u.k, .int .i64 p.u.n, .string p.u.t], .bool true]) (by simp [results, Try.results67, go_sem, r0, r1, r2]) rfl ⟨rfl, ?_⟩
  all_goals (have b3 := B1.trans (h2.mono (by omega)))
  all_goals exact ((b3.setCell (by simp) _).setCell (by simp) _).setCell (by simp) _
set_option maxRecDepth 100000 in
set_option maxHeartbeats 4000000 in
theorem ruleN_no1 (a b : Vu) (A : Option Addr) (c : Nat) (P : Value) (g B : Nat) (w : World) (hin : Vu.E.LIn w B A c [a, b]) (hB : B ≤ w.heap.size) (hk : ¬ a.k = 3) :
    Calls Try.prog 66 #[.slice A 2 c, P, .pointer (some ⟨g, 0, none⟩)] w fun e w' => e = .returned (.tuple #[.agg #[.int .i64 0, .int .i64 0, .string ⟨#[]⟩], .bool false]) ∧ Below w.heap.size w w' := by
  obtain ⟨ab, ao, rfl, hab, a0, a1, a2, _⟩ := Vu.at_ hin (i := 0) (x := a) rfl
  obtain ⟨ab2, ao2, e2, _, d0, d1, d2, _⟩ := Vu.at_ hin (i := 1) (x := b) rfl
  simp only [Option.some.injEq, Addr.mk.injEq] at e2
  obtain ⟨rfl, rfl, _⟩ := e2
  simp only [Nat.zero_mul, Nat.one_mul, Nat.add_zero] at a0 a1 a2 d0 d1 d2
  obtain ⟨W1, hW1⟩ : ∃ W1, W1 = w.alloc (.cells #[.int .i64 0, .int .i64 0, .string ⟨#[]⟩] 27) := ⟨_, rfl⟩
  have B1 : Below w.heap.size w W1 := by rw [hW1]; exact (Below.refl _ _).alloc (Nat.le_refl _) _
  have z1 : w.heap.size < W1.heap.size := by rw [hW1]; simp
  have R0 : D.Blk W1 w.heap.size 27 #[.int .i64 0, .int .i64 0, .string ⟨#[]⟩] := by rw [hW1]; exact D.Blk.new _ _ _
  have la : ab < W1.heap.size := by omega
  have a0 := (B1.cell (p := ⟨ab, ao, none⟩) (show ab < _ by omega)).trans a0
  have a1 := (B1.cell (p := ⟨ab, ao + 1, none⟩) (show ab < _ by omega)).trans a1
  have a2 := (B1.cell (p := ⟨ab, ao + 2, none⟩) (show ab < _ by omega)).trans a2
  have d0 := (B1.cell (p := ⟨ab, ao + 3, none⟩) (show ab < _ by omega)).trans d0
  have d1 := (B1.cell (p := ⟨ab, ao + 3 + 1, none⟩) (show ab < _ by omega)).trans d1
  have d2 := (B1.cell (p := ⟨ab, ao + 3 + 2, none⟩) (show ab < _ by omega)).trans d2
  have ek : (a.k != 3) = true := by simpa using hk
  clear hk
  go_enter Try.func66, Try.ntmps66
  go_upto_region 1 with fail
  rw [← hW1]
  clear hW1
  first | go_region | fail
  · obtain ⟨W2, hW2⟩ : ∃ W2, W2 = ((W1.alloc (.cells #[.int .i64 a.k, .int .i64 a.n, .string a.t] 27)).alloc (.cells #[.int .i64 b.k, .int .i64 b.n, .string b.t] 27)).drew := ⟨_, rfl⟩
    rw [← hW2]
    have h2 : Below W1.heap.size W1 W2 := by rw [hW2]; exact (((Below.refl _ _).alloc (Nat.le_refl _) _).alloc (by simp) _).drew
    have XX : Vu.Box W2 (W1.heap.size) a := by rw [hW2]; exact (Vu.Box.new W1 a 27).below (((Below.refl (W1.heap.size + 1) _).alloc (by simp) _).drew) (by omega)
    have XY0 : Vu.Box ((W1.alloc (.cells #[.int .i64 a.k, .int .i64 a.n, .string a.t] 27)).alloc (.cells #[.int .i64 b.k, .int .i64 b.n, .string b.t] 27)) (W1.heap.size + 1) b := by have := Vu.Box.new (W1.alloc (.cells #[.int .i64 a.k, .int .i64 a.n, .string a.t] 27)) b 27; simpa using this
    have XY : Vu.Box W2 (W1.heap.size + 1) b := by rw [hW2]; exact XY0.below ((Below.refl (W1.heap.size + 2) _).drew) (by omega)
    clear hW2 XY0
    have y2 := h2.size
    obtain ⟨x0, x1, x2⟩ := XX
    obtain ⟨y0, y1, y3⟩ := XY
    have R2 := R0.below h2 z1
    have r0 : World.cell? W2 ⟨w.heap.size, 0, none⟩ = some (.int .i64 0) := R2.cell 0
    have r1 : World.cell? W2 ⟨w.heap.size, 1, none⟩ = some (.int .i64 0) := R2.cell 1
    have r2 : World.cell? W2 ⟨w.heap.size, 2, none⟩ = some (.string ⟨#[]⟩) := R2.cell 2
    have g0 := R2.frozen 0
    have g1 := R2.frozen 1
    have g2 := R2.frozen 2
    go_wp2_with fail
    refine bodyPost_ret (v := .tuple #[.agg #[.int .i64 0, .int .i64 0, .string ⟨#[]⟩], .bool false]) (by simp [results, Try.results66, go_sem, r0, r1, r2]) rfl ⟨rfl, ?_⟩
    have b2 := B1.trans (h2.mono (by omega))
    exact ((b2.setCell (by simp) _).setCell (by simp) _).setCell (by simp) _
  · obtain ⟨W2, hW2⟩ : ∃ W2, W2 = ((W1.alloc (.cells #[.int .i64 b.k, .int .i64 b.n, .string b.t] 27)).alloc (.cells #[.int .i64 a.k, .int .i64 a.n, .string a.t] 27)).drew := ⟨_, rfl⟩
    rw [← hW2]
    have h2 : Below W1.heap.size W1 W2 := by rw [hW2]; exact (((Below.refl _ _).alloc (Nat.le_refl _) _).alloc (by simp) _).drew
    have XX : Vu.Box W2 (W1.heap.size) b := by rw [hW2]; exact (Vu.Box.new W1 b 27).below (((Below.refl (W1.heap.size + 1) _).alloc (by simp) _).drew) (by omega)
    have XY0 : Vu.Box ((W1.alloc (.cells #[.int .i64 b.k, .int .i64 b.n, .string b.t] 27)).alloc (.cells #[.int .i64 a.k, .int .i64 a.n, .string a.t] 27)) (W1.heap.size + 1) a := by have := Vu.Box.new (W1.alloc (.cells #[.int .i64 b.k, .int .i64 b.n, .string b.t] 27)) a 27; simpa using this
    have XY : Vu.Box W2 (W1.heap.size + 1) a := by rw [hW2]; exact XY0.below ((Below.refl (W1.heap.size + 2) _).drew) (by omega)
    clear hW2 XY0
    have y2 := h2.size
    obtain ⟨x0, x1, x2⟩ := XX
    obtain ⟨y0, y1, y3⟩ := XY
    have R2 := R0.below h2 z1
    have r0 : World.cell? W2 ⟨w.heap.size, 0, none⟩ = some (.int .i64 0) := R2.cell 0
    have r1 : World.cell? W2 ⟨w.heap.size, 1, none⟩ = some (.int .i64 0) := R2.cell 1
    have r2 : World.cell? W2 ⟨w.heap.size, 2, none⟩ = some (.string ⟨#[]⟩) := R2.cell 2
    have g0 := R2.frozen 0
    have g1 := R2.frozen 1
    have g2 := R2.frozen 2
    go_wp2_with fail
    refine bodyPost_ret (v := .tuple #[.agg #[.int .i64 0, .int .i64 0, .string ⟨#[]⟩], .bool false]) (by simp [results, Try.results66, go_sem, r0, r1, r2]) rfl ⟨rfl, ?_⟩
    have b2 := B1.trans (h2.mono (by omega))
    exact ((b2.setCell (by simp) _).setCell (by simp) _).setCell (by simp) _
set_option maxRecDepth 100000 in
set_option maxHeartbeats 4000000 in
theorem ruleN_no2 (a b : Vu) (A : Option Addr) (c : Nat) (P : Value) (g B : Nat) (w : World) (hin : Vu.E.LIn w B A c [a, b]) (hB : B ≤ w.heap.size) (hk : a.k = 3) (hk2 : ¬ b.k = 3) :
    Calls Try.prog 66 #[.slice A 2 c, P, .pointer (some ⟨g, 0, none⟩)] w fun e w' => e = .returned (.tuple #[.agg #[.int .i64 0, .int .i64 0, .string ⟨#[]⟩], .bool false]) ∧ Below w.heap.size w w' := by
  obtain ⟨ab, ao, rfl, hab, a0, a1, a2, _⟩ := Vu.at_ hin (i := 0) (x := a) rfl
  obtain ⟨ab2, ao2, e2, _, d0, d1, d2, _⟩ := Vu.at_ hin (i := 1) (x := b) rfl
  simp only [Option.some.injEq, Addr.mk.injEq] at e2
  obtain ⟨rfl, rfl, _⟩ := e2
  simp only [Nat.zero_mul, Nat.one_mul, Nat.add_zero] at a0 a1 a2 d0 d1 d2
  obtain ⟨W1, hW1⟩ : ∃ W1, W1 = w.alloc (.cells #[.int .i64 0, .int .i64 0, .string ⟨#[]⟩] 27) := ⟨_, rfl⟩
  have B1 : Below w.heap.size w W1 := by rw [hW1]; exact (Below.refl _ _).alloc (Nat.le_refl _) _
  have z1 : w.heap.size < W1.heap.size := by rw [hW1]; simp
  have R0 : D.Blk W1 w.heap.size 27 #[.int .i64 0, .int .i64 0, .string ⟨#[]⟩] := by rw [hW1]; exact D.Blk.new _ _ _
  have la : ab < W1.heap.size := by omega
  have a0 := (B1.cell (p := ⟨ab, ao, none⟩) (show ab < _ by omega)).trans a0
  have a1 := (B1.cell (p := ⟨ab, ao + 1, none⟩) (show ab < _ by omega)).trans a1
  have a2 := (B1.cell (p := ⟨ab, ao + 2, none⟩) (show ab < _ by omega)).trans a2
  have d0 := (B1.cell (p := ⟨ab, ao + 3, none⟩) (show ab < _ by omega)).trans d0
  have d1 := (B1.cell (p := ⟨ab, ao + 3 + 1, none⟩) (show ab < _ by omega)).trans d1
  have d2 := (B1.cell (p := ⟨ab, ao + 3 + 2, none⟩) (show ab < _ by omega)).trans d2
  have ek : (a.k != 3) = false := by simp [hk]
  have ek2 : (b.k != 3) = true := by simpa using hk2
  clear hk hk2
  go_enter Try.func66, Try.ntmps66
  go_upto_region 1 with fail
  rw [← hW1]
  clear hW1
  first | go_region | fail
  · obtain ⟨W2, hW2⟩ : ∃ W2, W2 = ((W1.alloc (.cells #[.int .i64 a.k, .int .i64 a.n, .string a.t] 27)).alloc (.cells #[.int .i64 b.k, .int .i64 b.n, .string b.t] 27)).drew := ⟨_, rfl⟩
    rw [← hW2]
    have h2 : Below W1.heap.size W1 W2 := by rw [hW2]; exact (((Below.refl _ _).alloc (Nat.le_refl _) _).alloc (by simp) _).drew
    have XX : Vu.Box W2 (W1.heap.size) a := by rw [hW2]; exact (Vu.Box.new W1 a 27).below (((Below.refl (W1.heap.size + 1) _).alloc (by simp) _).drew) (by omega)
    have XY0 : Vu.Box ((W1.alloc (.cells #[.int .i64 a.k, .int .i64 a.n, .string a.t] 27)).alloc (.cells #[.int .i64 b.k, .int .i64 b.n, .string b.t] 27)) (W1.heap.size + 1) b := by have := Vu.Box.new (W1.alloc (.cells #[.int .i64 a.k, .int .i64 a.n, .string a.t] 27)) b 27; simpa using this
    have XY : Vu.Box W2 (W1.heap.size + 1) b := by rw [hW2]; exact XY0.below ((Below.refl (W1.heap.size + 2) _).drew) (by omega)
    clear hW2 XY0
    have y2 := h2.size
    obtain ⟨x0, x1, x2⟩ := XX
    obtain ⟨y0, y1, y3⟩ := XY
    have R2 := R0.below h2 z1
    have r0 : World.cell? W2 ⟨w.heap.size, 0, none⟩ = some (.int .i64 0) := R2.cell 0
    have r1 : World.cell? W2 ⟨w.heap.size, 1, none⟩ = some (.int .i64 0) := R2.cell 1
    have r2 : World.cell? W2 ⟨w.heap.size, 2, none⟩ = some (.string ⟨#[]⟩) := R2.cell 2
    have g0 := R2.frozen 0
    have g1 := R2.frozen 1
    have g2 := R2.frozen 2
    go_wp2_with fail
    refine bodyPost_ret (v := .tuple #[.agg #[.int .i64 0, .int .i64 0, .string ⟨#[]⟩], .bool false]) (by simp [results, Try.results66, go_sem, r0, r1, r2]) rfl ⟨rfl, ?_⟩
    have b2 := B1.trans (h2.mono (by omega))
    exact ((b2.setCell (by simp) _).setCell (by simp) _).setCell (by simp) _
  · obtain ⟨W2, hW2⟩ : ∃ W2, W2 = ((W1.alloc (.cells #[.int .i64 b.k, .int .i64 b.n, .string b.t] 27)).alloc (.cells #[.int .i64 a.k, .int .i64 a.n, .string a.t] 27)).drew := ⟨_, rfl⟩
    rw [← hW2]
    have h2 : Below W1.heap.size W1 W2 := by rw [hW2]; exact (((Below.refl _ _).alloc (Nat.le_refl _) _).alloc (by simp) _).drew
    have XX : Vu.Box W2 (W1.heap.size) b := by rw [hW2]; exact (Vu.Box.new W1 b 27).below (((Below.refl (W1.heap.size + 1) _).alloc (by simp) _).drew) (by omega)
    have XY0 : Vu.Box ((W1.alloc (.cells #[.int .i64 b.k, .int .i64 b.n, .string b.t] 27)).alloc (.cells #[.int .i64 a.k, .int .i64 a.n, .string a.t] 27)) (W1.heap.size + 1) a := by have := Vu.Box.new (W1.alloc (.cells #[.int .i64 b.k, .int .i64 b.n, .string b.t] 27)) a 27; simpa using this
    have XY : Vu.Box W2 (W1.heap.size + 1) a := by rw [hW2]; exact XY0.below ((Below.refl (W1.heap.size + 2) _).drew) (by omega)
    clear hW2 XY0
    have y2 := h2.size
    obtain ⟨x0, x1, x2⟩ := XX
    obtain ⟨y0, y1, y3⟩ := XY
    have R2 := R0.below h2 z1
    have r0 : World.cell? W2 ⟨w.heap.size, 0, none⟩ = some (.int .i64 0) := R2.cell 0
    have r1 : World.cell? W2 ⟨w.heap.size, 1, none⟩ = some (.int .i64 0) := R2.cell 1
    have r2 : World.cell? W2 ⟨w.heap.size, 2, none⟩ = some (.string ⟨#[]⟩) := R2.cell 2
    have g0 := R2.frozen 0
    have g1 := R2.frozen 1
    have g2 := R2.frozen 2
    go_wp2_with fail
    refine bodyPost_ret (v := .tuple #[.agg #[.int .i64 0, .int .i64 0, .string ⟨#[]⟩], .bool false]) (by simp [results, Try.results66, go_sem, r0, r1, r2]) rfl ⟨rfl, ?_⟩
    have b2 := B1.trans (h2.mono (by omega))
    exact ((b2.setCell (by simp) _).setCell (by simp) _).setCell (by simp) _
set_option maxRecDepth 100000 in
set_option maxHeartbeats 4000000 in
theorem rule1_yes (a b : Vu) (A : Option Addr) (c : Nat) (P : Value) (g B : Nat) (w : World) (hin : Vu.E.LIn w B A c [a, b]) (hB : B ≤ w.heap.size) (hg : g < w.heap.size) (hf : w.cell? ⟨g, 0, none⟩ = some (.func (.func 49) #[] #[])) (hk : a.k = 3) (hk2 : b.k = 3) (ha : -999999999 ≤ a.n ∧ a.n ≤ 999999999) (hb : -999999999 ≤ b.n ∧ b.n ≤ 999999999) :
    Calls Try.prog 66 #[.slice A 2 c, P, .pointer (some ⟨g, 0, none⟩)] w fun e w' => e = .returned (.tuple #[.agg #[.int .i64 3, .int .i64 (a.n + b.n), .string ⟨#[]⟩], .bool true]) ∧ Below w.heap.size w w' := by
  obtain ⟨ab, ao, rfl, hab, a0, a1, a2, _⟩ := Vu.at_ hin (i := 0) (x := a) rfl
  obtain ⟨ab2, ao2, e2, _, d0, d1, d2, _⟩ := Vu.at_ hin (i := 1) (x := b) rfl
  simp only [Option.some.injEq, Addr.mk.injEq] at e2
  obtain ⟨rfl, rfl, _⟩ := e2
  simp only [Nat.zero_mul, Nat.one_mul, Nat.add_zero] at a0 a1 a2 d0 d1 d2
  obtain ⟨W1, hW1⟩ : ∃ W1, W1 = w.alloc (.cells #[.int .i64 0, .int .i64 0, .string ⟨#[]⟩] 27) := ⟨_, rfl⟩
  have B1 : Below w.heap.size w W1 := by rw [hW1]; exact (Below.refl _ _).alloc (Nat.le_refl _) _
  have z1 : w.heap.size < W1.heap.size := by rw [hW1]; simp
  have R0 : D.Blk W1 w.heap.size 27 #[.int .i64 0, .int .i64 0, .string ⟨#[]⟩] := by rw [hW1]; exact D.Blk.new _ _ _
  have la : ab < W1.heap.size := by omega
  have a0 := (B1.cell (p := ⟨ab, ao, none⟩) (show ab < _ by omega)).trans a0
  have a1 := (B1.cell (p := ⟨ab, ao + 1, none⟩) (show ab < _ by omega)).trans a1
  have a2 := (B1.cell (p := ⟨ab, ao + 2, none⟩) (show ab < _ by omega)).trans a2
  have d0 := (B1.cell (p := ⟨ab, ao + 3, none⟩) (show ab < _ by omega)).trans d0
  have d1 := (B1.cell (p := ⟨ab, ao + 3 + 1, none⟩) (show ab < _ by omega)).trans d1
  have d2 := (B1.cell (p := ⟨ab, ao + 3 + 2, none⟩) (show ab < _ by omega)).trans d2
  have ek : (a.k != 3) = false := by simp [hk]
  have ek2 : (b.k != 3) = false := by simp [hk2]
  have f0 := (B1.cell (p := ⟨g, 0, none⟩) hg).trans hf
  have lg : g < W1.heap.size := by omega
  have HT : Hid (∀ u, Calls Try.prog 49 #[.int .i64 a.n, .int .i64 b.n] u fun e w' => e = .returned (.agg #[.int .i64 3, .int .i64 (a.n + b.n), .string ⟨#[]⟩]) ∧ Below u.heap.size u w') := fun u => op1_any a.n b.n ha hb u
  clear hk hk2 hf
  go_enter Try.func66, Try.ntmps66
  go_upto_region 1 with fail
  rw [← hW1]
  clear hW1
  first | go_region | fail
  · obtain ⟨W2, hW2⟩ : ∃ W2, W2 = ((W1.alloc (.cells #[.int .i64 a.k, .int .i64 a.n, .string a.t] 27)).alloc (.cells #[.int .i64 b.k, .int .i64 b.n, .string b.t] 27)).drew := ⟨_, rfl⟩
    rw [← hW2]
    have h2 : Below W1.heap.size W1 W2 := by rw [hW2]; exact (((Below.refl _ _).alloc (Nat.le_refl _) _).alloc (by simp) _).drew
    have XX : Vu.Box W2 (W1.heap.size) a := by rw [hW2]; exact (Vu.Box.new W1 a 27).below (((Below.refl (W1.heap.size + 1) _).alloc (by simp) _).drew) (by omega)
    have XY0 : Vu.Box ((W1.alloc (.cells #[.int .i64 a.k, .int .i64 a.n, .string a.t] 27)).alloc (.cells #[.int .i64 b.k, .int .i64 b.n, .string b.t] 27)) (W1.heap.size + 1) b := by have := Vu.Box.new (W1.alloc (.cells #[.int .i64 a.k, .int .i64 a.n, .string a.t] 27)) b 27; simpa using this
    have XY : Vu.Box W2 (W1.heap.size + 1) b := by rw [hW2]; exact XY0.below ((Below.refl (W1.heap.size + 2) _).drew) (by omega)
    clear hW2 XY0
    have y2 := h2.size
    obtain ⟨x0, x1, x2⟩ := XX
    obtain ⟨y0, y1, y3⟩ := XY
    have f2 := (h2.cell (p := ⟨g, 0, none⟩) lg).trans f0
    go_wp2_with fail
    clear x0 x1 x2 y0 y1 y3 f2
    refine (HT.out W2).mono ?_
    rintro e w3 ⟨rfl, hb3⟩
    have h3 := h2.trans (hb3.mono (by omega))
    have R2 := R0.below h3 z1
    have r0 : World.cell? w3 ⟨w.heap.size, 0, none⟩ = some (.int .i64 0) := R2.cell 0
    have r1 : World.cell? w3 ⟨w.heap.size, 1, none⟩ = some (.int .i64 0) := R2.cell 1
    have r2 : World.cell? w3 ⟨w.heap.size, 2, none⟩ = some (.string ⟨#[]⟩) := R2.cell 2
    have g0 := R2.frozen 0
    have g1 := R2.frozen 1
    have g2 := R2.frozen 2
    go_wp2_with fail
    refine bodyPost_ret (v := .tuple #[.agg #[.int .i64 3, .int .i64 (a.n + b.n), .string ⟨#[]⟩], .bool true]) (by simp [results, Try.results66, go_sem, r0, r1, r2]) rfl ⟨rfl, ?_⟩
    have b2 := B1.trans (h3.mono (by omega))
    exact ((b2.setCell (by simp) _).setCell (by simp) _).setCell (by simp) _
  · obtain ⟨W2, hW2⟩ : ∃ W2, W2 = ((W1.alloc (.cells #[.int .i64 b.k, .int .i64 b.n, .string b.t] 27)).alloc (.cells #[.int .i64 a.k, .int .i64 a.n, .string a.t] 27)).drew := ⟨_, rfl⟩
    rw [← hW2]
    have h2 : Below W1.heap.size W1 W2 := by rw [hW2]; exact (((Below.refl _ _).alloc (Nat.le_refl _) _).alloc (by simp) _).drew
    have XX : Vu.Box W2 (W1.heap.size) b := by rw [hW2]; exact (Vu.Box.new W1 b 27).below (((Below.refl (W1.heap.size + 1) _).alloc (by simp) _).drew) (by omega)
    have XY0 : Vu.Box ((W1.alloc (.cells #[.int .i64 b.k, .int .i64 b.n, .string b.t] 27)).alloc (.cells #[.int .i64 a.k, .int .i64 a.n, .string a.t] 27)) (W1.heap.size + 1) a := by have := Vu.Box.new (W1.alloc (.cells #[.int .i64 b.k, .int .i64 b.n, .string b.t] 27)) a 27; simpa using this
    have XY : Vu.Box W2 (W1.heap.size + 1) a := by rw [hW2]; exact XY0.below ((Below.refl (W1.heap.size + 2) _).drew) (by omega)
    clear hW2 XY0
    have y2 := h2.size
    obtain ⟨x0, x1, x2⟩ := XX
    obtain ⟨y0, y1, y3⟩ := XY
    have f2 := (h2.cell (p := ⟨g, 0, none⟩) lg).trans f0
    go_wp2_with fail
    clear x0 x1 x2 y0 y1 y3 f2
    refine (HT.out W2).mono ?_
    rintro e w3 ⟨rfl, hb3⟩
    have h3 := h2.trans (hb3.mono (by omega))
    have R2 := R0.below h3 z1
    have r0 : World.cell? w3 ⟨w.heap.size, 0, none⟩ = some (.int .i64 0) := R2.cell 0
    have r1 : World.cell? w3 ⟨w.heap.size, 1, none⟩ = some (.int .i64 0) := R2.cell 1
    have r2 : World.cell? w3 ⟨w.heap.size, 2, none⟩ = some (.string ⟨#[]⟩) := R2.cell 2
    have g0 := R2.frozen 0
    have g1 := R2.frozen 1
    have g2 := R2.frozen 2
    go_wp2_with fail
    refine bodyPost_ret (v := .tuple #[.agg #[.int .i64 3, .int .i64 (a.n + b.n), .string ⟨#[]⟩], .bool true]) (by simp [results, Try.results66, go_sem, r0, r1, r2]) rfl ⟨rfl, ?_⟩
    have b2 := B1.trans (h3.mono (by omega))
    exact ((b2.setCell (by simp) _).setCell (by simp) _).setCell (by simp) _
set_option maxRecDepth 100000 in
set_option maxHeartbeats 4000000 in
theorem rule2_yes (a b : Vu) (A : Option Addr) (c : Nat) (P : Value) (g B : Nat) (w : World) (hin : Vu.E.LIn w B A c [a, b]) (hB : B ≤ w.heap.size) (hg : g < w.heap.size) (hf : w.cell? ⟨g, 0, none⟩ = some (.func (.func 51) #[] #[])) (hk : a.k = 3) (hk2 : b.k = 3) (ha : -999999999 ≤ a.n ∧ a.n ≤ 999999999) (hb : -999999999 ≤ b.n ∧ b.n ≤ 999999999) :
    Calls Try.prog 66 #[.slice A 2 c, P, .pointer (some ⟨g, 0, none⟩)] w fun e w' => e = .returned (.tuple #[.agg #[.int .i64 3, .int .i64 (a.n - b.n), .string ⟨#[]⟩], .bool true]) ∧ Below w.heap.size w w' := by
  obtain ⟨ab, ao, rfl, hab, a0, a1, a2, _⟩ := Vu.at_ hin (i := 0) (x := a) rfl
  obtain ⟨ab2, ao2, e2, _, d0, d1, d2, _⟩ := Vu.at_ hin (i := 1) (x := b) rfl
  simp only [Option.some.injEq, Addr.mk.injEq] at e2
  obtain ⟨rfl, rfl, _⟩ := e2
  simp only [Nat.zero_mul, Nat.one_mul, Nat.add_zero] at a0 a1 a2 d0 d1 d2
  obtain ⟨W1, hW1⟩ : ∃ W1, W1 = w.alloc (.cells #[.int .i64 0, .int .i64 0, .string ⟨#[]⟩] 27) := ⟨_, rfl⟩
  have B1 : Below w.heap.size w W1 := by rw [hW1]; exact (Below.refl _ _).alloc (Nat.le_refl _) _
  have z1 : w.heap.size < W1.heap.size := by rw [hW1]; simp
  have R0 : D.Blk W1 w.heap.size 27 #[.int .i64 0, .int .i64 0, .string ⟨#[]⟩] := by rw [hW1]; exact D.Blk.new _ _ _
  have la : ab < W1.heap.size := by omega
  have a0 := (B1.cell (p := ⟨ab, ao, none⟩) (show ab < _ by omega)).trans a0
  have a1 := (B1.cell (p := ⟨ab, ao + 1, none⟩) (show ab < _ by omega)).trans a1
  have a2 := (B1.cell (p := ⟨ab, ao + 2, none⟩) (show ab < _ by omega)).trans a2
  have d0 := (B1.cell (p := ⟨ab, ao + 3, none⟩) (show ab < _ by omega)).trans d0
  have d1 := (B1.cell (p := ⟨ab, ao + 3 + 1, none⟩) (show ab < _ by omega)).trans d1
  have d2 := (B1.cell (p := ⟨ab, ao + 3 + 2, none⟩) (show ab < _ by omega)).trans d2
  have ek : (a.k != 3) = false := by simp [hk]
  have ek2 : (b.k != 3) = false := by simp [hk2]
  have f0 := (B1.cell (p := ⟨g, 0, none⟩) hg).trans hf
  have lg : g < W1.heap.size := by omega
  have HT : Hid (∀ u, Calls Try.prog 51 #[.int .i64 a.n, .int .i64 b.n] u fun e w' => e = .returned (.agg #[.int .i64 3, .int .i64 (a.n - b.n), .string ⟨#[]⟩]) ∧ Below u.heap.size u w') := fun u => op2_any a.n b.n ha hb u
  clear hk hk2 hf
  go_enter Try.func66, Try.ntmps66
  go_upto_region 1 with fail
  rw [← hW1]
  clear hW1
  first | go_region | fail
  · obtain ⟨W2, hW2⟩ : ∃ W2, W2 = ((W1.alloc (.cells #[.int .i64 a.k, .int .i64 a.n, .string a.t] 27)).alloc (.cells #[.int .i64 b.k, .int .i64 b.n, .string b.t] 27)).drew := ⟨_, rfl⟩
    rw [← hW2]
    have h2 : Below W1.heap.size W1 W2 := by rw [hW2]; exact (((Below.refl _ _).alloc (Nat.le_refl _) _).alloc (by simp) _).drew
    have XX : Vu.Box W2 (W1.heap.size) a := by rw [hW2]; exact (Vu.Box.new W1 a 27).below (((Below.refl (W1.heap.size + 1) _).alloc (by simp) _).drew) (by omega)
    have XY0 : Vu.Box ((W1.alloc (.cells #[.int .i64 a.k, .int .i64 a.n, .string a.t] 27)).alloc (.cells #[.int .i64 b.k, .int .i64 b.n, .string b.t] 27)) (W1.heap.size + 1) b := by have := Vu.Box.new (W1.alloc (.cells #[.int .i64 a.k, .int .i64 a.n, .string a.t] 27)) b 27; simpa using this
    have XY : Vu.Box W2 (W1.heap.size + 1) b := by rw [hW2]; exact XY0.below ((Below.refl (W1.heap.size + 2) _).drew) (by omega)
    clear hW2 XY0
    have y2 := h2.size
    obtain ⟨x0, x1, x2⟩ := XX
    obtain ⟨y0, y1, y3⟩ := XY
    have f2 := (h2.cell (p := ⟨g, 0, none⟩) lg).trans f0
    go_wp2_with fail
    clear x0 x1 x2 y0 y1 y3 f2
    refine (HT.out W2).mono ?_
    rintro e w3 ⟨rfl, hb3⟩
    have h3 := h2.trans (hb3.mono (by omega))
    have R2 := R0.below h3 z1
    have r0 : World.cell? w3 ⟨w.heap.size, 0, none⟩ = some (.int .i64 0) := R2.cell 0
    have r1 : World.cell? w3 ⟨w.heap.size, 1, none⟩ = some (.int .i64 0) := R2.cell 1
    have r2 : World.cell? w3 ⟨w.heap.size, 2, none⟩ = some (.string ⟨#[]⟩) := R2.cell 2
    have g0 := R2.frozen 0
    have g1 := R2.frozen 1
    have g2 := R2.frozen 2
    go_wp2_with fail
    refine bodyPost_ret (v := .tuple #[.agg #[.int .i64 3, .int .i64 (a.n - b.n), .string ⟨#[]⟩], .bool true]) (by simp [results, Try.results66, go_sem, r0, r1, r2]) rfl ⟨rfl, ?_⟩
    have b2 := B1.trans (h3.mono (by omega))
    exact ((b2.setCell (by simp) _).setCell (by simp) _).setCell (by simp) _
  · obtain ⟨W2, hW2⟩ : ∃ W2, W2 = ((W1.alloc (.cells #[.int .i64 b.k, .int .i64 b.n, .string b.t] 27)).alloc (.cells #[.int .i64 a.k, .int .i64 a.n, .string a.t] 27)).drew := ⟨_, rfl⟩
    rw [← hW2]
    have h2 : Below W1.heap.size W1 W2 := by rw [hW2]; exact (((Below.refl _ _).alloc (Nat.le_refl _) _).alloc (by simp) _).drew
    have XX : Vu.Box W2 (W1.heap.size) b := by rw [hW2]; exact (Vu.Box.new W1 b 27).below (((Below.refl (W1.heap.size + 1) _).alloc (by simp) _).drew) (by omega)
    have XY0 : Vu.Box ((W1.alloc (.cells #[.int .i64 b.k, .int .i64 b.n, .string b.t] 27)).alloc (.cells #[.int .i64 a.k, .int .i64 a.n, .string a.t] 27)) (W1.heap.size + 1) a := by have := Vu.Box.new (W1.alloc (.cells #[.int .i64 b.k, .int .i64 b.n, .string b.t] 27)) a 27; simpa using this
    have XY : Vu.Box W2 (W1.heap.size + 1) a := by rw [hW2]; exact XY0.below ((Below.refl (W1.heap.size + 2) _).drew) (by omega)
    clear hW2 XY0
    have y2 := h2.size
    obtain ⟨x0, x1, x2⟩ := XX
    obtain ⟨y0, y1, y3⟩ := XY
    have f2 := (h2.cell (p := ⟨g, 0, none⟩) lg).trans f0
    go_wp2_with fail
    clear x0 x1 x2 y0 y1 y3 f2
    refine (HT.out W2).mono ?_
    rintro e w3 ⟨rfl, hb3⟩
    have h3 := h2.trans (hb3.mono (by omega))
    have R2 := R0.below h3 z1
    have r0 : World.cell? w3 ⟨w.heap.size, 0, none⟩ = some (.int .i64 0) := R2.cell 0
    have r1 : World.cell? w3 ⟨w.heap.size, 1, none⟩ = some (.int .i64 0) := R2.cell 1
    have r2 : World.cell? w3 ⟨w.heap.size, 2, none⟩ = some (.string ⟨#[]⟩) := R2.cell 2
    have g0 := R2.frozen 0
    have g1 := R2.frozen 1
    have g2 := R2.frozen 2
    go_wp2_with fail
    refine bodyPost_ret (v := .tuple #[.agg #[.int .i64 3, .int .i64 (a.n - b.n), .string ⟨#[]⟩], .bool true]) (by simp [results, Try.results66, go_sem, r0, r1, r2]) rfl ⟨rfl, ?_⟩
    have b2 := B1.trans (h3.mono (by omega))
    exact ((b2.setCell (by simp) _).setCell (by simp) _).setCell (by simp) _
set_option maxRecDepth 100000 in
set_option maxHeartbeats 4000000 in
theorem rule3_yes (a b : Vu) (A : Option Addr) (c : Nat) (P : Value) (g B : Nat) (w : World) (hin : Vu.E.LIn w B A c [a, b]) (hB : B ≤ w.heap.size) (hg : g < w.heap.size) (hf : w.cell? ⟨g, 0, none⟩ = some (.func (.func 52) #[] #[])) (hk : a.k = 3) (hk2 : b.k = 3) (ha : -999999999 ≤ a.n ∧ a.n ≤ 999999999) (hb : -999999999 ≤ b.n ∧ b.n ≤ 999999999) :
    Calls Try.prog 66 #[.slice A 2 c, P, .pointer (some ⟨g, 0, none⟩)] w fun e w' => e = .returned (.tuple #[.agg #[.int .i64 3, .int .i64 (a.n * b.n), .string ⟨#[]⟩], .bool true]) ∧ Below w.heap.size w w' := by
  obtain ⟨ab, ao, rfl, hab, a0, a1, a2, _⟩ := Vu.at_ hin (i := 0) (x := a) rfl
  obtain ⟨ab2, ao2, e2, _, d0, d1, d2, _⟩ := Vu.at_ hin (i := 1) (x := b) rfl
  simp only [Option.some.injEq, Addr.mk.injEq] at e2
  obtain ⟨rfl, rfl, _⟩ := e2
  simp only [Nat.zero_mul, Nat.one_mul, Nat.add_zero] at a0 a1 a2 d0 d1 d2
  obtain ⟨W1, hW1⟩ : ∃ W1, W1 = w.alloc (.cells #[.int .i64 0, .int .i64 0, .string ⟨#[]⟩] 27) := ⟨_, rfl⟩
  have B1 : Below w.heap.size w W1 := by rw [hW1]; exact (Below.refl _ _).alloc (Nat.le_refl _) _
  have z1 : w.heap.size < W1.heap.size := by rw [hW1]; simp
  have R0 : D.Blk W1 w.heap.size 27 #[.int .i64 0, .int .i64 0, .string ⟨#[]⟩] := by rw [hW1]; exact D.Blk.new _ _ _
  have la : ab < W1.heap.size := by omega
  have a0 := (B1.cell (p := ⟨ab, ao, none⟩) (show ab < _ by omega)).trans a0
  have a1 := (B1.cell (p := ⟨ab, ao + 1, none⟩) (show ab < _ by omega)).trans a1
  have a2 := (B1.cell (p := ⟨ab, ao + 2, none⟩) (show ab < _ by omega)).trans a2
  have d0 := (B1.cell (p := ⟨ab, ao + 3, none⟩) (show ab < _ by omega)).trans d0
  have d1 := (B1.cell (p := ⟨ab, ao + 3 + 1, none⟩) (show ab < _ by omega)).trans d1
  have d2 := (B1.cell (p := ⟨ab, ao + 3 + 2, none⟩) (show ab < _ by omega)).trans d2
  have ek : (a.k != 3) = false := by simp [hk]
  have ek2 : (b.k != 3) = false := by simp [hk2]
  have f0 := (B1.cell (p := ⟨g, 0, none⟩) hg).trans hf
  have lg : g < W1.heap.size := by omega
  have HT : Hid (∀ u, Calls Try.prog 52 #[.int .i64 a.n, .int .i64 b.n] u fun e w' => e = .returned (.agg #[.int .i64 3, .int .i64 (a.n * b.n), .string ⟨#[]⟩]) ∧ Below u.heap.size u w') := fun u => op3_any a.n b.n ha hb u
  clear hk hk2 hf
  go_enter Try.func66, Try.ntmps66
  go_upto_region 1 with fail
  rw [← hW1]
  clear hW1
  first | go_region | fail
  · obtain ⟨W2, hW2⟩ : ∃ W2, W2 = ((W1.alloc (.cells #[.int .i64 a.k, .int .i64 a.n, .string a.t] 27)).alloc (.cells #[.int .i64 b.k, .int .i64 b.n, .string b.t] 27)).drew := ⟨_, rfl⟩
    rw [← hW2]
    have h2 : Below W1.heap.size W1 W2 := by rw [hW2]; exact (((Below.refl _ _).alloc (Nat.le_refl _) _).alloc (by simp) _).drew
    have XX : Vu.Box W2 (W1.heap.size) a := by rw [hW2]; exact (Vu.Box.new W1 a 27).below (((Below.refl (W1.heap.size + 1) _).alloc (by simp) _).drew) (by omega)
    have XY0 : Vu.Box ((W1.alloc (.cells #[.int .i64 a.k, .int .i64 a.n, .string a.t] 27)).alloc (.cells #[.int .i64 b.k, .int .i64 b.n, .string b.t] 27)) (W1.heap.size + 1) b := by have := Vu.Box.new (W1.alloc (.cells #[.int .i64 a.k, .int .i64 a.n, .string a.t] 27)) b 27; simpa using this
    have XY : Vu.Box W2 (W1.heap.size + 1) b := by rw [hW2]; exact XY0.below ((Below.refl (W1.heap.size + 2) _).drew) (by omega)
    clear hW2 XY0
    have y2 := h2.size
    obtain ⟨x0, x1, x2⟩ := XX
    obtain ⟨y0, y1, y3⟩ := XY
    have f2 := (h2.cell (p := ⟨g, 0, none⟩) lg).trans f0
    go_wp2_with fail
    clear x0 x1 x2 y0 y1 y3 f2
    refine (HT.out W2).mono ?_
    rintro e w3 ⟨rfl, hb3⟩
    have h3 := h2.trans (hb3.mono (by omega))
    have R2 := R0.below h3 z1
    have r0 : World.cell? w3 ⟨w.heap.size, 0, none⟩ = some (.int .i64 0) := R2.cell 0
    have r1 : World.cell? w3 ⟨w.heap.size, 1, none⟩ = some (.int .i64 0) := R2.cell 1
    have r2 : World.cell? w3 ⟨w.heap.size, 2, none⟩ = some (.string ⟨#[]⟩) := R2.cell 2
    have g0 := R2.frozen 0
    have g1 := R2.frozen 1
    have g2 := R2.frozen 2
    go_wp2_with fail
    refine bodyPost_ret (v := .tuple #[.agg #[.int .i64 3, .int .i64 (a.n * b.n), .string ⟨#[]⟩], .bool true]) (by simp [results, Try.results66, go_sem, r0, r1, r2]) rfl ⟨rfl, ?_⟩
    have b2 := B1.trans (h3.mono (by omega))
    exact ((b2.setCell (by simp) _).setCell (by simp) _).setCell (by simp) _
  · obtain ⟨W2, hW2⟩ : ∃ W2, W2 = ((W1.alloc (.cells #[.int .i64 b.k, .int .i64 b.n, .string b.t] 27)).alloc (.cells #[.int .i64 a.k, .int .i64 a.n, .string a.t] 27)).drew := ⟨_, rfl⟩
    rw [← hW2]
    have h2 : Below W1.heap.size W1 W2 := by rw [hW2]; exact (((Below.refl _ _).alloc (Nat.le_refl _) _).alloc (by simp) _).drew
    have XX : Vu.Box W2 (W1.heap.size) b := by rw [hW2]; exact (Vu.Box.new W1 b 27).below (((Below.refl (W1.heap.size + 1) _).alloc (by simp) _).drew) (by omega)
    have XY0 : Vu.Box ((W1.alloc (.cells #[.int .i64 b.k, .int .i64 b.n, .string b.t] 27)).alloc (.cells #[.int .i64 a.k, .int .i64 a.n, .string a.t] 27)) (W1.heap.size + 1) a := by have := Vu.Box.new (W1.alloc (.cells #[.int .i64 b.k, .int .i64 b.n, .string b.t] 27)) a 27; simpa using this
    have XY : Vu.Box W2 (W1.heap.size + 1) a := by rw [hW2]; exact XY0.below ((Below.refl (W1.heap.size + 2) _).drew) (by omega)
    clear hW2 XY0
    have y2 := h2.size
    obtain ⟨x0, x1, x2⟩ := XX
    obtain ⟨y0, y1, y3⟩ := XY
    have f2 := (h2.cell (p := ⟨g, 0, none⟩) lg).trans f0
    go_wp2_with fail
    clear x0 x1 x2 y0 y1 y3 f2
    refine (HT.out W2).mono ?_
    rintro e w3 ⟨rfl, hb3⟩
    have h3 := h2.trans (hb3.mono (by omega))
    have R2 := R0.below h3 z1
    have r0 : World.cell? w3 ⟨w.heap.size, 0, none⟩ = some (.int .i64 0) := R2.cell 0
    have r1 : World.cell? w3 ⟨w.heap.size, 1, none⟩ = some (.int .i64 0) := R2.cell 1
    have r2 : World.cell? w3 ⟨w.heap.size, 2, none⟩ = some (.string ⟨#[]⟩) := R2.cell 2
    have g0 := R2.frozen 0
    have g1 := R2.frozen 1
    have g2 := R2.frozen 2
    go_wp2_with fail
    refine bodyPost_ret (v := .tuple #[.agg #[.int .i64 3, .int .i64 (a.n * b.n), .string ⟨#[]⟩], .bool true]) (by simp [results, Try.results66, go_sem, r0, r1, r2]) rfl ⟨rfl, ?_⟩
    have b2 := B1.trans (h3.mono (by omega))
    exact ((b2.setCell (by simp) _).setCell (by simp) _).setCell (by simp) _
set_option maxRecDepth 100000 in
set_option maxHeartbeats 4000000 in
theorem rule4_yes (a b : Vu) (A : Option Addr) (c : Nat) (P : Value) (g B : Nat) (w : World) (hin : Vu.E.LIn w B A c [a, b]) (hB : B ≤ w.heap.size) (hg : g < w.heap.size) (hf : w.cell? ⟨g, 0, none⟩ = some (.func (.func 53) #[] #[])) (hk : a.k = 3) (hk2 : b.k = 3) (ha : -999999999 ≤ a.n ∧ a.n ≤ 999999999) (hb : -999999999 ≤ b.n ∧ b.n ≤ 999999999) :
    Calls Try.prog 66 #[.slice A 2 c, P, .pointer (some ⟨g, 0, none⟩)] w fun e w' => e = .returned (.tuple #[.agg #[.int .i64 2, .int .i64 (if (a.n == b.n) = true then 1 else 0), .string ⟨#[]⟩], .bool true]) ∧ Below w.heap.size w w' := by
  obtain ⟨ab, ao, rfl, hab, a0, a1, a2, _⟩ := Vu.at_ hin (i := 0) (x := a) rfl
  obtain ⟨ab2, ao2, e2, _, d0, d1, d2, _⟩ := Vu.at_ hin (i := 1) (x := b) rfl
  simp only [Option.some.injEq, Addr.mk.injEq] at e2
  obtain ⟨rfl, rfl, _⟩ := e2
  simp only [Nat.zero_mul, Nat.one_mul, Nat.add_zero] at a0 a1 a2 d0 d1 d2
  obtain ⟨W1, hW1⟩ : ∃ W1, W1 = w.alloc (.cells #[.int .i64 0, .int .i64 0, .string ⟨#[]⟩] 27) := ⟨_, rfl⟩
  have B1 : Below w.heap.size w W1 := by rw [hW1]; exact (Below.refl _ _).alloc (Nat.le_refl _) _
  have z1 : w.heap.size < W1.heap.size := by rw [hW1]; simp
  have R0 : D.Blk W1 w.heap.size 27 #[.int .i64 0, .int .i64 0, .string ⟨#[]⟩] := by rw [hW1]; exact D.Blk.new _ _ _
  have la : ab < W1.heap.size := by omega
  have a0 := (B1.cell (p := ⟨ab, ao, none⟩) (show ab < _ by omega)).trans a0
  have a1 := (B1.cell (p := ⟨ab, ao + 1, none⟩) (show ab < _ by omega)).trans a1
  have a2 := (B1.cell (p := ⟨ab, ao + 2, none⟩) (show ab < _ by omega)).trans a2
  have d0 := (B1.cell (p := ⟨ab, ao + 3, none⟩) (show ab < _ by omega)).trans d0
  have d1 := (B1.cell (p := ⟨ab, ao + 3 + 1, none⟩) (show ab < _ by omega)).trans d1
  have d2 := (B1.cell (p := ⟨ab, ao + 3 + 2, none⟩) (show ab < _ by omega)).trans d2
  obtain ⟨cc, hcc⟩ : ∃ cc : Int, cc = (if (a.n == b.n) = true then 1 else 0) := ⟨_, rfl⟩
  have ek : (a.k != 3) = false := by simp [hk]
  have ek2 : (b.k != 3) = false := by simp [hk2]
  have f0 := (B1.cell (p := ⟨g, 0, none⟩) hg).trans hf
  have lg : g < W1.heap.size := by omega
  have HT : Hid (∀ u, Calls Try.prog 53 #[.int .i64 a.n, .int .i64 b.n] u fun e w' => e = .returned (.agg #[.int .i64 2, .int .i64 (if (a.n == b.n) = true then 1 else 0), .string ⟨#[]⟩]) ∧ Below u.heap.size u w') := fun u => op4_any a.n b.n ha hb u
  rw [← hcc] at HT ⊢
  clear hcc
  clear hk hk2 hf
  go_enter Try.func66, Try.ntmps66
  go_upto_region 1 with fail
  rw [← hW1]
  clear hW1
  first | go_region | fail
  · obtain ⟨W2, hW2⟩ : ∃ W2, W2 = ((W1.alloc (.cells #[.int .i64 a.k, .int .i64 a.n, .string a.t] 27)).alloc (.cells #[.int .i64 b.k, .int .i64 b.n, .string b.t] 27)).drew := ⟨_, rfl⟩
    rw [← hW2]
    have h2 : Below W1.heap.size W1 W2 := by rw [hW2]; exact (((Below.refl _ _).alloc (Nat.le_refl _) _).alloc (by simp) _).drew
    have XX : Vu.Box W2 (W1.heap.size) a := by rw [hW2]; exact (Vu.Box.new W1 a 27).below (((Below.refl (W1.heap.size + 1) _).alloc (by simp) _).drew) (by omega)
    have XY0 : Vu.Box ((W1.alloc (.cells #[.int .i64 a.k, .int .i64 a.n, .string a.t] 27)).alloc (.cells #[.int .i64 b.k, .int .i64 b.n, .string b.t] 27)) (W1.heap.size + 1) b := by have := Vu.Box.new (W1.alloc (.cells #[.int .i64 a.k, .int .i64 a.n, .string a.t] 27)) b 27; simpa using this
    have XY : Vu.Box W2 (W1.heap.size + 1) b := by rw [hW2]; exact XY0.below ((Below.refl (W1.heap.size + 2) _).drew) (by omega)
    clear hW2 XY0
    have y2 := h2.size
    obtain ⟨x0, x1, x2⟩ := XX
    obtain ⟨y0, y1, y3⟩ := XY
    have f2 := (h2.cell (p := ⟨g, 0, none⟩) lg).trans f0
    go_wp2_with fail
    clear x0 x1 x2 y0 y1 y3 f2
    refine (HT.out W2).mono ?_
    rintro e w3 ⟨rfl, hb3⟩
    have h3 := h2.trans (hb3.mono (by omega))
    have R2 := R0.below h3 z1
    have r0 : World.cell? w3 ⟨w.heap.size, 0, none⟩ = some (.int .i64 0) := R2.cell 0
    have r1 : World.cell? w3 ⟨w.heap.size, 1, none⟩ = some (.int .i64 0) := R2.cell 1
    have r2 : World.cell? w3 ⟨w.heap.size, 2, none⟩ = some (.string ⟨#[]⟩) := R2.cell 2
    have g0 := R2.frozen 0
    have g1 := R2.frozen 1
    have g2 := R2.frozen 2
    go_wp2_with fail
    refine bodyPost_ret (v := .tuple #[.agg #[.int .i64 2, .int .i64 cc, .string ⟨#[]⟩], .bool true]) (by simp [results, Try.results66, go_sem, r0, r1, r2]) rfl ⟨rfl, ?_⟩
    have b2 := B1.trans (h3.mono (by omega))
    exact ((b2.setCell (by simp) _).setCell (by simp) _).setCell (by simp) _
  · obtain ⟨W2, hW2⟩ : ∃ W2, W2 = ((W1.alloc (.cells #[.int .i64 b.k, .int .i64 b.n, .string b.t] 27)).alloc (.cells #[.int .i64 a.k, .int .i64 a.n, .string a.t] 27)).drew := ⟨_, rfl⟩
    rw [← hW2]
    have h2 : Below W1.heap.size W1 W2 := by rw [hW2]; exact (((Below.refl _ _).alloc (Nat.le_refl _) _).alloc (by simp) _).drew
    have XX : Vu.Box W2 (W1.heap.size) b := by rw [hW2]; exact (Vu.Box.new W1 b 27).below (((Below.refl (W1.heap.size + 1) _).alloc (by simp) _).drew) (by omega)
    have XY0 : Vu.Box ((W1.alloc (.cells #[.int .i64 b.k, .int .i64 b.n, .string b.t] 27)).alloc (.cells #[.int .i64 a.k, .int .i64 a.n, .string a.t] 27)) (W1.heap.size + 1) a := by have := Vu.Box.new (W1.alloc (.cells #[.int .i64 b.k, .int .i64 b.n, .string b.t] 27)) a 27; simpa using this
    have XY : Vu.Box W2 (W1.heap.size + 1) a := by rw [hW2]; exact XY0.below ((Below.refl (W1.heap.size + 2) _).drew) (by omega)
    clear hW2 XY0
    have y2 := h2.size
    obtain ⟨x0, x1, x2⟩ := XX
    obtain ⟨y0, y1, y3⟩ := XY
    have f2 := (h2.cell (p := ⟨g, 0, none⟩) lg).trans f0
    go_wp2_with fail
    clear x0 x1 x2 y0 y1 y3 f2
    refine (HT.out W2).mono ?_
    rintro e w3 ⟨rfl, hb3⟩
    have h3 := h2.trans (hb3.mono (by omega))
    have R2 := R0.below h3 z1
    have r0 : World.cell? w3 ⟨w.heap.size, 0, none⟩ = some (.int .i64 0) := R2.cell 0
    have r1 : World.cell? w3 ⟨w.heap.size, 1, none⟩ = some (.int .i64 0) := R2.cell 1
    have r2 : World.cell? w3 ⟨w.heap.size, 2, none⟩ = some (.string ⟨#[]⟩) := R2.cell 2
    have g0 := R2.frozen 0
    have g1 := R2.frozen 1
    have g2 := R2.frozen 2
    go_wp2_with fail
    refine bodyPost_ret (v := .tuple #[.agg #[.int .i64 2, .int .i64 cc, .string ⟨#[]⟩], .bool true]) (by simp [results, Try.results66, go_sem, r0, r1, r2]) rfl ⟨rfl, ?_⟩
    have b2 := B1.trans (h3.mono (by omega))
    exact ((b2.setCell (by simp) _).setCell (by simp) _).setCell (by simp) _
set_option maxRecDepth 100000 in
set_option maxHeartbeats 4000000 in
theorem rule5_yes (a b : Vu) (A : Option Addr) (c : Nat) (P : Value) (g B : Nat) (w : World) (hin : Vu.E.LIn w B A c [a, b]) (hB : B ≤ w.heap.size) (hg : g < w.heap.size) (hf : w.cell? ⟨g, 0, none⟩ = some (.func (.func 55) #[] #[])) (hk : a.k = 3) (hk2 : b.k = 3) (ha : -999999999 ≤ a.n ∧ a.n ≤ 999999999) (hb : -999999999 ≤ b.n ∧ b.n ≤ 999999999) :
    Calls Try.prog 66 #[.slice A 2 c, P, .pointer (some ⟨g, 0, none⟩)] w fun e w' => e = .returned (.tuple #[.agg #[.int .i64 2, .int .i64 (if (decide (a.n < b.n)) = true then 1 else 0), .string ⟨#[]⟩], .bool true]) ∧ Below w.heap.size w w' := by
  obtain ⟨ab, ao, rfl, hab, a0, a1, a2, _⟩ := Vu.at_ hin (i := 0) (x := a) rfl
  obtain ⟨ab2, ao2, e2, _, d0, d1, d2, _⟩ := Vu.at_ hin (i := 1) (x := b) rfl
  simp only [Option.some.injEq, Addr.mk.injEq] at e2
  obtain ⟨rfl, rfl, _⟩ := e2
  simp only [Nat.zero_mul, Nat.one_mul, Nat.add_zero] at a0 a1 a2 d0 d1 d2
  obtain ⟨W1, hW1⟩ : ∃ W1, W1 = w.alloc (.cells #[.int .i64 0, .int .i64 0, .string ⟨#[]⟩] 27) := ⟨_, rfl⟩
  have B1 : Below w.heap.size w W1 := by rw [hW1]; exact (Below.refl _ _).alloc (Nat.le_refl _) _
  have z1 : w.heap.size < W1.heap.size := by rw [hW1]; simp
  have R0 : D.Blk W1 w.heap.size 27 #[.int .i64 0, .int .i64 0, .string ⟨#[]⟩] := by rw [hW1]; exact D.Blk.new _ _ _
  have la : ab < W1.heap.size := by omega
  have a0 := (B1.cell (p := ⟨ab, ao, none⟩) (show ab < _ by omega)).trans a0
  have a1 := (B1.cell (p := ⟨ab, ao + 1, none⟩) (show ab < _ by omega)).trans a1
  have a2 := (B1.cell (p := ⟨ab, ao + 2, none⟩) (show ab < _ by omega)).trans a2
  have d0 := (B1.cell (p := ⟨ab, ao + 3, none⟩) (show ab < _ by omega)).trans d0
  have d1 := (B1.cell (p := ⟨ab, ao + 3 + 1, none⟩) (show ab < _ by omega)).trans d1
  have d2 := (B1.cell (p := ⟨ab, ao + 3 + 2, none⟩) (show ab < _ by omega)).trans d2
  obtain ⟨cc, hcc⟩ : ∃ cc : Int, cc = (if (decide (a.n < b.n)) = true then 1 else 0) := ⟨_, rfl⟩
  have ek : (a.k != 3) = false := by simp [hk]
  have ek2 : (b.k != 3) = false := by simp [hk2]
  have f0 := (B1.cell (p := ⟨g, 0, none⟩) hg).trans hf
  have lg : g < W1.heap.size := by omega
  have HT : Hid (∀ u, Calls Try.prog 55 #[.int .i64 a.n, .int .i64 b.n] u fun e w' => e = .returned (.agg #[.int .i64 2, .int .i64 (if (decide (a.n < b.n)) = true then 1 else 0), .string ⟨#[]⟩]) ∧ Below u.heap.size u w') := fun u => op5_any a.n b.n ha hb u
  rw [← hcc] at HT ⊢
  clear hcc
  clear hk hk2 hf
  go_enter Try.func66, Try.ntmps66
  go_upto_region 1 with fail
  rw [← hW1]
  clear hW1
  first | go_region | fail
  · obtain ⟨W2, hW2⟩ : ∃ W2, W2 = ((W1.alloc (.cells #[.int .i64 a.k, .int .i64 a.n, .string a.t] 27)).alloc (.cells #[.int .i64 b.k, .int .i64 b.n, .string b.t] 27)).drew := ⟨_, rfl⟩
    rw [← hW2]
    have h2 : Below W1.heap.size W1 W2 := by rw [hW2]; exact (((Below.refl _ _).alloc (Nat.le_refl _) _).alloc (by simp) _).drew
    have XX : Vu.Box W2 (W1.heap.size) a := by rw [hW2]; exact (Vu.Box.new W1 a 27).below (((Below.refl (W1.heap.size + 1) _).alloc (by simp) _).drew) (by omega)
    have XY0 : Vu.Box ((W1.alloc (.cells #[.int .i64 a.k, .int .i64 a.n, .string a.t] 27)).alloc (.cells #[.int .i64 b.k, .int .i64 b.n, .string b.t] 27)) (W1.heap.size + 1) b := by have := Vu.Box.new (W1.alloc (.cells #[.int .i64 a.k, .int .i64 a.n, .string a.t] 27)) b 27; simpa using this
    have XY : Vu.Box W2 (W1.heap.size + 1) b := by rw [hW2]; exact XY0.below ((Below.refl (W1.heap.size + 2) _).drew) (by omega)
    clear hW2 XY0
    have y2 := h2.size
    obtain ⟨x0, x1, x2⟩ := XX
    obtain ⟨y0, y1, y3⟩ := XY
    have f2 := (h2.cell (p := ⟨g, 0, none⟩) lg).trans f0
    go_wp2_with fail
    clear x0 x1 x2 y0 y1 y3 f2
    refine (HT.out W2).mono ?_
    rintro e w3 ⟨rfl, hb3⟩
    have h3 := h2.trans (hb3.mono (by omega))
    have R2 := R0.below h3 z1
    have r0 : World.cell? w3 ⟨w.heap.size, 0, none⟩ = some (.int .i64 0) := R2.cell 0
    have r1 : World.cell? w3 ⟨w.heap.size, 1, none⟩ = some (.int .i64 0) := R2.cell 1
    have r2 : World.cell? w3 ⟨w.heap.size, 2, none⟩ = some (.string ⟨#[]⟩) := R2.cell 2
    have g0 := R2.frozen 0
    have g1 := R2.frozen 1
    have g2 := R2.frozen 2
    go_wp2_with fail
    refine bodyPost_ret (v := .tuple #[.agg #[.int .i64 2, .int .i64 cc, .string ⟨#[]⟩], .bool true]) (by simp [results, Try.results66, go_sem, r0, r1, r2]) rfl ⟨rfl, ?_⟩
    have b2 := B1.trans (h3.mono (by omega))
    exact ((b2.setCell (by simp) _).setCell (by simp) _).setCell (by simp) _
  · obtain ⟨W2, hW2⟩ : ∃ W2, W2 = ((W1.alloc (.cells #[.int .i64 b.k, .int .i64 b.n, .string b.t] 27)).alloc (.cells #[.int .i64 a.k, .int .i64 a.n, .string a.t] 27)).drew := ⟨_, rfl⟩
    rw [← hW2]
    have h2 : Below W1.heap.size W1 W2 := by rw [hW2]; exact (((Below.refl _ _).alloc (Nat.le_refl _) _).alloc (by simp) _).drew
    have XX : Vu.Box W2 (W1.heap.size) b := by rw [hW2]; exact (Vu.Box.new W1 b 27).below (((Below.refl (W1.heap.size + 1) _).alloc (by simp) _).drew) (by omega)
    have XY0 : Vu.Box ((W1.alloc (.cells #[.int .i64 b.k, .int .i64 b.n, .string b.t] 27)).alloc (.cells #[.int .i64 a.k, .int .i64 a.n, .string a.t] 27)) (W1.heap.size + 1) a := by have := Vu.Box.new (W1.alloc (.cells #[.int .i64 b.k, .int .i64 b.n, .string b.t] 27)) a 27; simpa using this
    have XY : Vu.Box W2 (W1.heap.size + 1) a := by rw [hW2]; exact XY0.below ((Below.refl (W1.heap.size + 2) _).drew) (by omega)
    clear hW2 XY0
    have y2 := h2.size
    obtain ⟨x0, x1, x2⟩ := XX
    obtain ⟨y0, y1, y3⟩ := XY
    have f2 := (h2.cell (p := ⟨g, 0, none⟩) lg).trans f0
    go_wp2_with fail
    clear x0 x1 x2 y0 y1 y3 f2
    refine (HT.out W2).mono ?_
    rintro e w3 ⟨rfl, hb3⟩
    have h3 := h2.trans (hb3.mono (by omega))
    have R2 := R0.below h3 z1
    have r0 : World.cell? w3 ⟨w.heap.size, 0, none⟩ = some (.int .i64 0) := R2.cell 0
    have r1 : World.cell? w3 ⟨w.heap.size, 1, none⟩ = some (.int .i64 0) := R2.cell 1
    have r2 : World.cell? w3 ⟨w.heap.size, 2, none⟩ = some (.string ⟨#[]⟩) := R2.cell 2
    have g0 := R2.frozen 0
    have g1 := R2.frozen 1
    have g2 := R2.frozen 2
    go_wp2_with fail
    refine bodyPost_ret (v := .tuple #[.agg #[.int .i64 2, .int .i64 cc, .string ⟨#[]⟩], .bool true]) (by simp [results, Try.results66, go_sem, r0, r1, r2]) rfl ⟨rfl, ?_⟩
    have b2 := B1.trans (h3.mono (by omega))
    exact ((b2.setCell (by simp) _).setCell (by simp) _).setCell (by simp) _
end Go.Proofs.Ytnldlbglgalbaab
