/-
  Image: the laws' own copies (written by gen/rec.py).
-/
import Derived.Test.YtpigpncbjckbcaaImZ
import Derived.Test.YtpigpncbjckbcaaCdL
import Derived.Deep.DeepCutAuto
namespace Go.Proofs.Ytpigpncbjckbcaa
open Go.RowKit

set_option maxRecDepth 100000 in
set_option maxHeartbeats 8000000 in
theorem Im_to_any (x : Im) (B : Nat) (w : World) (hbk0 : x.bulk ≤ 1500000) (hin : Im.E.In w B x) (hB : B ≤ w.heap.size) : Calls Try.prog 11 #[Im.val x] w (RetIm (Im.er x) w) := by
  have hbk : Row.bulk Cd.bulk x.l ≤ 1500000 := hbk0
  clear hbk0
  obtain ⟨W1, hW1⟩ : ∃ W1, W1 = w.alloc (.cells #[.slice x.lA x.l.length x.lC, .int .i64 x.m] 26) := ⟨_, rfl⟩
  obtain ⟨W2, hW2⟩ : ∃ W2, W2 = W1.alloc (.cells #[.slice none 0 0, .int .i64 0] 31) := ⟨_, rfl⟩
  obtain ⟨W3, hW3⟩ : ∃ W3, W3 = W2.alloc (.cells #[.slice none 0 0, .int .i64 0] 31) := ⟨_, rfl⟩
  have z1 : W1.heap.size = w.heap.size + 1 := by rw [hW1]; simp
  have z2 : W2.heap.size = w.heap.size + 1 + 1 := by rw [hW2]; simp [z1]
  have z3 : W3.heap.size = w.heap.size + 1 + 1 + 1 := by rw [hW3]; simp [z2]
  have B1 : Below w.heap.size w W1 := by rw [hW1]; exact (Below.refl _ _).alloc (Nat.le_refl _) _
  have B2 : Below W1.heap.size W1 W2 := by rw [hW2]; exact (Below.refl _ _).alloc (Nat.le_refl _) _
  have B3 : Below W2.heap.size W2 W3 := by rw [hW3]; exact (Below.refl _ _).alloc (Nat.le_refl _) _
  have X0 : Im.Box W1 w.heap.size x := by rw [hW1]; exact Im.Box.new _ _ _
  have X0 := (X0.below B2 (by omega)).below B3 (by omega)
  have R0 : D.Blk W2 (w.heap.size + 1) 31 #[.slice none 0 0, .int .i64 0] := by rw [hW2, ← z1]; exact D.Blk.new _ _ _
  have R0 := R0.below B3 (by omega)
  have O0 : D.Blk W3 (w.heap.size + 1 + 1) 31 #[.slice none 0 0, .int .i64 0] := by rw [hW3, ← z2]; exact D.Blk.new _ _ _
  have b0 : Below w.heap.size w W3 := (B1.trans (B2.mono (by omega))).trans (B3.mono (by omega))
  have y3 : w.heap.size + 3 ≤ W3.heap.size := by omega
  have i0 := hin.below (b0.mono hB)
  unfold Im.val
  have X0q := X0
  obtain ⟨a0, a1⟩ := X0q
  go_enter Try.func11, Try.ntmps11
  go_wp2_with fail
  rw [← hW1, ← hW2, ← hW3]
  clear hW1 hW2 hW3 B1 B2 B3 z1 z2 z3 a0 a1
  refine (Cd_toL_any x.lA x.lC x.l B _ (by omega) (Im.E_in i0).l (by omega)).mono ?_
  rintro e v0 ⟨D0A, D0C, D0, rfl, he0, hod0, hq0⟩
  have zv0 := hq0.size
  have HE0 := Lib.hid he0
  clear he0
  have X0v := X0.below hq0 (by omega)
  have R0v := R0.below hq0 (by omega)
  have O0v := O0.below hq0 (by omega)
  have bv0 := b0.trans (hq0.mono (by omega))
  have P0 := hod0.wide (lo' := w.heap.size + 3) (by omega) (Nat.le_refl v0.heap.size)
  clear hod0
  clear hq0 X0 R0 O0 b0 i0
  have c0 : World.cell? v0 ⟨w.heap.size + 1 + 1, 0, none⟩ = some (.slice none 0 0) := O0v.cell 0
  have f0 := O0v.frozen 0
  have c1 : World.cell? v0 ⟨w.heap.size + 1 + 1, 1, none⟩ = some (.int .i64 0) := O0v.cell 1
  have f1 := O0v.frozen 1
  have X0q := X0v
  obtain ⟨a0, a1⟩ := X0q
  go_upto_region 4 with fail
  obtain ⟨U1, hU1⟩ : ∃ U, U = ((v0.setCell ⟨w.heap.size + 1 + 1, 0, none⟩ (.slice D0A D0.length D0C)).setCell ⟨w.heap.size + 1 + 1, 1, none⟩ (.int .i64 x.m)) := ⟨_, rfl⟩
  rw [← hU1]
  have O1 : D.Blk U1 (w.heap.size + 1 + 1) 31 #[.slice D0A D0.length D0C, .int .i64 x.m] := by rw [hU1]; have := ((O0v.set_ 0 (.slice D0A D0.length D0C)).set_ 1 (.int .i64 x.m)); simpa using this
  have R1 : D.Blk U1 (w.heap.size + 1) 31 #[.slice none 0 0, .int .i64 0] := by rw [hU1]; exact (rec_far (rec_far R0v (by simp) _) (by simp) _)
  have b1 : Below w.heap.size w U1 := by rw [hU1]; exact ((bv0.setCell (by simp; omega) _).setCell (by simp; omega) _)
  have y1 : U1.heap.size = v0.heap.size := by rw [hU1]; simp
  have P0 : Cd.E.LOwn (w.heap.size + 3) v0.heap.size U1 D0A D0C D0 := by rw [hU1]; exact ((P0.far (by simp <;> omega) _).far (by simp <;> omega) _)
  have yl1 : v0.heap.size ≤ U1.heap.size := by omega
  have yu1 : U1.heap.size ≤ v0.heap.size := by omega
  clear hU1 O0v R0v X0v bv0 y1 c0 f0 a0 c1 f1 a1
  have c0 : World.cell? U1 ⟨w.heap.size + 1 + 1, 0, none⟩ = some (.slice D0A D0.length D0C) := O1.cell 0
  have c1 : World.cell? U1 ⟨w.heap.size + 1 + 1, 1, none⟩ = some (.int .i64 x.m) := O1.cell 1
  have r0 : World.cell? U1 ⟨w.heap.size + 1, 0, none⟩ = some (.slice none 0 0) := R1.cell 0
  have g0 := R1.frozen 0
  have r1 : World.cell? U1 ⟨w.heap.size + 1, 1, none⟩ = some (.int .i64 0) := R1.cell 1
  have g1 := R1.frozen 1
  have PP : Hid (Im.E.Own (w.heap.size + 3) v0.heap.size U1 (⟨D0A, D0C, D0, x.m⟩ : Im)) := Im.own_of (x := (⟨D0A, D0C, D0, x.m⟩ : Im)) P0 (by omega) 
  clear P0 O1 R1
  go_wp2_with fail
  refine bodyPost_ret (v := .agg #[.slice D0A D0.length D0C, .int .i64 x.m]) (by simp [results, Try.results11, go_sem, r0, r1]) rfl ⟨(⟨D0A, D0C, D0, x.m⟩ : Im), rfl, ?_, ?_, ?_⟩
  · show Im.er _ = _
    simp only [Im.er, HE0.out]
  · simp only [World.size_setCell]
    exact ((PP.out.far (by simp <;> omega) _).far (by simp <;> omega) _).wide (by omega) (by omega)
  · exact ((b1.setCell (by simp <;> omega) _).setCell (by simp <;> omega) _)
end Go.Proofs.Ytpigpncbjckbcaa
