/-
  Instr: the laws' own copies (written by gen/rec.py).
-/
import Derived.Test.YtpigpncbjckbcaaDoorNtZ
import Derived.Deep.DeepCutAuto
namespace Go.Proofs.YtpigpncbjckbcaaDoor
open Go.RowKit

set_option maxRecDepth 100000 in
set_option maxHeartbeats 8000000 in
theorem Nt_to_any (x : Nt) (B : Nat) (w : World) (hbk0 : x.bulk ≤ 1500000) (hin : Nt.E.In w B x) (hB : B ≤ w.heap.size) : Calls Tryd.prog 6 #[Nt.val x] w (RetNt (Nt.er x) w) := by
  have hbk : x.t.bulk ≤ 1500000 := hbk0
  clear hbk0
  obtain ⟨W1, hW1⟩ : ∃ W1, W1 = w.alloc (.cells #[.int .i64 x.o, .int .i64 x.i, .int .i64 x.t.k, .int .i64 x.t.n, .string x.t.t, .slice x.t.A x.t.l.length x.t.c] 26) := ⟨_, rfl⟩
  obtain ⟨W2, hW2⟩ : ∃ W2, W2 = W1.alloc (.cells #[.int .i64 0, .int .i64 0, .int .i64 0, .int .i64 0, .string ⟨#[]⟩, .slice none 0 0] 33) := ⟨_, rfl⟩
  obtain ⟨W3, hW3⟩ : ∃ W3, W3 = W2.alloc (.cells #[.int .i64 x.o, .int .i64 x.i, .int .i64 0, .int .i64 0, .string ⟨#[]⟩, .slice none 0 0] 33) := ⟨_, rfl⟩
  have z1 : W1.heap.size = w.heap.size + 1 := by rw [hW1]; simp
  have z2 : W2.heap.size = w.heap.size + 1 + 1 := by rw [hW2]; simp [z1]
  have z3 : W3.heap.size = w.heap.size + 1 + 1 + 1 := by rw [hW3]; simp [z2]
  have B1 : Below w.heap.size w W1 := by rw [hW1]; exact (Below.refl _ _).alloc (Nat.le_refl _) _
  have B2 : Below W1.heap.size W1 W2 := by rw [hW2]; exact (Below.refl _ _).alloc (Nat.le_refl _) _
  have B3 : Below W2.heap.size W2 W3 := by rw [hW3]; exact (Below.refl _ _).alloc (Nat.le_refl _) _
  have X0 : Nt.Box W1 w.heap.size x := by rw [hW1]; exact Nt.Box.new _ _ _
  have X0 := (X0.below B2 (by omega)).below B3 (by omega)
  have R0 : D.Blk W2 (w.heap.size + 1) 33 #[.int .i64 0, .int .i64 0, .int .i64 0, .int .i64 0, .string ⟨#[]⟩, .slice none 0 0] := by rw [hW2, ← z1]; exact D.Blk.new _ _ _
  have R0 := R0.below B3 (by omega)
  have O0 : D.Blk W3 (w.heap.size + 1 + 1) 33 #[.int .i64 x.o, .int .i64 x.i, .int .i64 0, .int .i64 0, .string ⟨#[]⟩, .slice none 0 0] := by rw [hW3, ← z2]; exact D.Blk.new _ _ _
  have b0 : Below w.heap.size w W3 := (B1.trans (B2.mono (by omega))).trans (B3.mono (by omega))
  have y3 : w.heap.size + 3 ≤ W3.heap.size := by omega
  have i0 := hin.below (b0.mono hB)
  unfold Nt.val
  have X0q := X0
  obtain ⟨a0, a1, a2, a3, a4, a5⟩ := X0q
  go_enter Tryd.func6, Tryd.ntmps6
  go_wp2_with fail
  rw [← hW1, ← hW2, ← hW3]
  clear hW1 hW2 hW3 B1 B2 B3 z1 z2 z3 a0 a1 a2 a3 a4 a5
  refine (to_any 2000000 x.t B _ (by have := D.bulk_size (x.t); omega) (by omega) (Nt.E_in i0).t (by omega)).mono ?_
  rintro e v0 ⟨D0, rfl, he0, hod0, hq0⟩
  have zv0 := hq0.size
  have HE0 := Lib.hid he0
  clear he0
  have X0v := X0.below hq0 (by omega)
  have R0v := R0.below hq0 (by omega)
  have O0v := O0.below hq0 (by omega)
  have bv0 := b0.trans (hq0.mono (by omega))
  have P0 := hod0.wide (lo' := w.heap.size + 3) (by omega) (Nat.le_refl v0.heap.size)
  clear hod0
  clear hq0 X0 R0 O0 b0 i0
  have c0 : World.cell? v0 ⟨w.heap.size + 1 + 1, 0, none⟩ = some (.int .i64 x.o) := O0v.cell 0
  have f0 := O0v.frozen 0
  have c1 : World.cell? v0 ⟨w.heap.size + 1 + 1, 1, none⟩ = some (.int .i64 x.i) := O0v.cell 1
  have f1 := O0v.frozen 1
  have c2 : World.cell? v0 ⟨w.heap.size + 1 + 1, 2, none⟩ = some (.int .i64 0) := O0v.cell 2
  have f2 := O0v.frozen 2
  have c3 : World.cell? v0 ⟨w.heap.size + 1 + 1, 3, none⟩ = some (.int .i64 0) := O0v.cell 3
  have f3 := O0v.frozen 3
  have c4 : World.cell? v0 ⟨w.heap.size + 1 + 1, 4, none⟩ = some (.string ⟨#[]⟩) := O0v.cell 4
  have f4 := O0v.frozen 4
  have c5 : World.cell? v0 ⟨w.heap.size + 1 + 1, 5, none⟩ = some (.slice none 0 0) := O0v.cell 5
  have f5 := O0v.frozen 5
  have X0q := X0v
  obtain ⟨a0, a1, a2, a3, a4, a5⟩ := X0q
  simp only [D.val]
  go_upto_region 5 with fail
  obtain ⟨U1, hU1⟩ : ∃ U, U = ((((v0.setCell ⟨w.heap.size + 1 + 1, 2, none⟩ (.int .i64 D0.k)).setCell ⟨w.heap.size + 1 + 1, 3, none⟩ (.int .i64 D0.n)).setCell ⟨w.heap.size + 1 + 1, 4, none⟩ (.string D0.t)).setCell ⟨w.heap.size + 1 + 1, 5, none⟩ (.slice D0.A D0.l.length D0.c)) := ⟨_, rfl⟩
  rw [← hU1]
  have O1 : D.Blk U1 (w.heap.size + 1 + 1) 33 #[.int .i64 x.o, .int .i64 x.i, .int .i64 D0.k, .int .i64 D0.n, .string D0.t, .slice D0.A D0.l.length D0.c] := by rw [hU1]; have := ((((O0v.set_ 2 (.int .i64 D0.k)).set_ 3 (.int .i64 D0.n)).set_ 4 (.string D0.t)).set_ 5 (.slice D0.A D0.l.length D0.c)); simpa using this
  have R1 : D.Blk U1 (w.heap.size + 1) 33 #[.int .i64 0, .int .i64 0, .int .i64 0, .int .i64 0, .string ⟨#[]⟩, .slice none 0 0] := by rw [hU1]; exact (rec_far (rec_far (rec_far (rec_far R0v (by simp) _) (by simp) _) (by simp) _) (by simp) _)
  have b1 : Below w.heap.size w U1 := by rw [hU1]; exact ((((bv0.setCell (by simp; omega) _).setCell (by simp; omega) _).setCell (by simp; omega) _).setCell (by simp; omega) _)
  have y1 : U1.heap.size = v0.heap.size := by rw [hU1]; simp
  have P0 : D.Own (w.heap.size + 3) v0.heap.size U1 D0 := by rw [hU1]; exact ((((P0.far (by simp <;> omega) _).far (by simp <;> omega) _).far (by simp <;> omega) _).far (by simp <;> omega) _)
  have yl1 : v0.heap.size ≤ U1.heap.size := by omega
  have yu1 : U1.heap.size ≤ v0.heap.size := by omega
  clear hU1 O0v R0v X0v bv0 y1 c0 f0 a0 c1 f1 a1 c2 f2 a2 c3 f3 a3 c4 f4 a4 c5 f5 a5
  have c0 : World.cell? U1 ⟨w.heap.size + 1 + 1, 0, none⟩ = some (.int .i64 x.o) := O1.cell 0
  have c1 : World.cell? U1 ⟨w.heap.size + 1 + 1, 1, none⟩ = some (.int .i64 x.i) := O1.cell 1
  have c2 : World.cell? U1 ⟨w.heap.size + 1 + 1, 2, none⟩ = some (.int .i64 D0.k) := O1.cell 2
  have c3 : World.cell? U1 ⟨w.heap.size + 1 + 1, 3, none⟩ = some (.int .i64 D0.n) := O1.cell 3
  have c4 : World.cell? U1 ⟨w.heap.size + 1 + 1, 4, none⟩ = some (.string D0.t) := O1.cell 4
  have c5 : World.cell? U1 ⟨w.heap.size + 1 + 1, 5, none⟩ = some (.slice D0.A D0.l.length D0.c) := O1.cell 5
  have r0 : World.cell? U1 ⟨w.heap.size + 1, 0, none⟩ = some (.int .i64 0) := R1.cell 0
  have g0 := R1.frozen 0
  have r1 : World.cell? U1 ⟨w.heap.size + 1, 1, none⟩ = some (.int .i64 0) := R1.cell 1
  have g1 := R1.frozen 1
  have r2 : World.cell? U1 ⟨w.heap.size + 1, 2, none⟩ = some (.int .i64 0) := R1.cell 2
  have g2 := R1.frozen 2
  have r3 : World.cell? U1 ⟨w.heap.size + 1, 3, none⟩ = some (.int .i64 0) := R1.cell 3
  have g3 := R1.frozen 3
  have r4 : World.cell? U1 ⟨w.heap.size + 1, 4, none⟩ = some (.string ⟨#[]⟩) := R1.cell 4
  have g4 := R1.frozen 4
  have r5 : World.cell? U1 ⟨w.heap.size + 1, 5, none⟩ = some (.slice none 0 0) := R1.cell 5
  have g5 := R1.frozen 5
  have PP : Hid (Nt.E.Own (w.heap.size + 3) v0.heap.size U1 (⟨x.o, x.i, D0⟩ : Nt)) := Nt.own_of (x := (⟨x.o, x.i, D0⟩ : Nt)) P0 (by omega) 
  clear P0 O1 R1
  go_wp2_with fail
  refine bodyPost_ret (v := .agg #[.int .i64 x.o, .int .i64 x.i, .int .i64 D0.k, .int .i64 D0.n, .string D0.t, .slice D0.A D0.l.length D0.c]) (by simp [results, Tryd.results6, go_sem, r0, r1, r2, r3, r4, r5]) rfl ⟨(⟨x.o, x.i, D0⟩ : Nt), rfl, ?_, ?_, ?_⟩
  · show Nt.er _ = _
    simp only [Nt.er, HE0.out]
  · simp only [World.size_setCell]
    exact ((((((PP.out.far (by simp <;> omega) _).far (by simp <;> omega) _).far (by simp <;> omega) _).far (by simp <;> omega) _).far (by simp <;> omega) _).far (by simp <;> omega) _).wide (by omega) (by omega)
  · exact ((((((b1.setCell (by simp <;> omega) _).setCell (by simp <;> omega) _).setCell (by simp <;> omega) _).setCell (by simp <;> omega) _).setCell (by simp <;> omega) _).setCell (by simp <;> omega) _)
end Go.Proofs.YtpigpncbjckbcaaDoor
