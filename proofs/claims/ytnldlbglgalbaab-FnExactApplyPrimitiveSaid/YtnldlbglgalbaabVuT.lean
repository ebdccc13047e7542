/-
  Value: the laws' own copies (written by gen/rec.py).
-/
import Derived.Test.YtnldlbglgalbaabVuZ
import Derived.Deep.DeepCutAuto
namespace Go.Proofs.Ytnldlbglgalbaab
open Go.RowKit

set_option maxRecDepth 100000 in
set_option maxHeartbeats 8000000 in
theorem Vu_to_any (x : Vu) (B : Nat) (w : World) (hbk0 : x.bulk ≤ 1500000) (hin : Vu.E.In w B x) (hB : B ≤ w.heap.size) : Calls Try.prog 19 #[Vu.val x] w (RetVu (Vu.er x) w) := by
  have hbk : x.t.size ≤ 1500000 := hbk0
  clear hbk0
  obtain ⟨W1, hW1⟩ : ∃ W1, W1 = w.alloc (.cells #[.int .i64 x.k, .int .i64 x.n, .string x.t] 39) := ⟨_, rfl⟩
  obtain ⟨W2, hW2⟩ : ∃ W2, W2 = W1.alloc (.cells #[.int .i64 0, .int .i64 0, .string ⟨#[]⟩] 27) := ⟨_, rfl⟩
  obtain ⟨W3, hW3⟩ : ∃ W3, W3 = W2.alloc (.cells #[.int .i64 x.k, .int .i64 x.n, .string x.t] 27) := ⟨_, rfl⟩
  have z1 : W1.heap.size = w.heap.size + 1 := by rw [hW1]; simp
  have z2 : W2.heap.size = w.heap.size + 1 + 1 := by rw [hW2]; simp [z1]
  have z3 : W3.heap.size = w.heap.size + 1 + 1 + 1 := by rw [hW3]; simp [z2]
  have B1 : Below w.heap.size w W1 := by rw [hW1]; exact (Below.refl _ _).alloc (Nat.le_refl _) _
  have B2 : Below W1.heap.size W1 W2 := by rw [hW2]; exact (Below.refl _ _).alloc (Nat.le_refl _) _
  have B3 : Below W2.heap.size W2 W3 := by rw [hW3]; exact (Below.refl _ _).alloc (Nat.le_refl _) _
  have X0 : Vu.Box W1 w.heap.size x := by rw [hW1]; exact Vu.Box.new _ _ _
  have X0 := (X0.below B2 (by omega)).below B3 (by omega)
  have R0 : D.Blk W2 (w.heap.size + 1) 27 #[.int .i64 0, .int .i64 0, .string ⟨#[]⟩] := by rw [hW2, ← z1]; exact D.Blk.new _ _ _
  have R0 := R0.below B3 (by omega)
  have O0 : D.Blk W3 (w.heap.size + 1 + 1) 27 #[.int .i64 x.k, .int .i64 x.n, .string x.t] := by rw [hW3, ← z2]; exact D.Blk.new _ _ _
  have b0 : Below w.heap.size w W3 := (B1.trans (B2.mono (by omega))).trans (B3.mono (by omega))
  have y3 : w.heap.size + 3 ≤ W3.heap.size := by omega
  have i0 := hin.below (b0.mono hB)
  unfold Vu.val
  have X0q := X0
  obtain ⟨a0, a1, a2⟩ := X0q
  go_enter Try.func19, Try.ntmps19
  go_upto_region 5 with fail
  rw [← hW1, ← hW2, ← hW3]
  clear hW1 hW2 hW3 B1 B2 B3 z1 z2 z3 a0 a1 a2
  have c0 : World.cell? W3 ⟨w.heap.size + 1 + 1, 0, none⟩ = some (.int .i64 x.k) := O0.cell 0
  have c1 : World.cell? W3 ⟨w.heap.size + 1 + 1, 1, none⟩ = some (.int .i64 x.n) := O0.cell 1
  have c2 : World.cell? W3 ⟨w.heap.size + 1 + 1, 2, none⟩ = some (.string x.t) := O0.cell 2
  have r0 : World.cell? W3 ⟨w.heap.size + 1, 0, none⟩ = some (.int .i64 0) := R0.cell 0
  have g0 := R0.frozen 0
  have r1 : World.cell? W3 ⟨w.heap.size + 1, 1, none⟩ = some (.int .i64 0) := R0.cell 1
  have g1 := R0.frozen 1
  have r2 : World.cell? W3 ⟨w.heap.size + 1, 2, none⟩ = some (.string ⟨#[]⟩) := R0.cell 2
  have g2 := R0.frozen 2
  clear X0 O0 R0 i0
  go_wp2_with fail
  refine bodyPost_ret (v := .agg #[.int .i64 x.k, .int .i64 x.n, .string x.t]) (by simp [results, Try.results19, go_sem, r0, r1, r2]) rfl ⟨x, rfl, rfl, Vu.own_of ⟨(Vu.E_in hin).t⟩, ?_⟩
  exact (((b0.setCell (by simp <;> omega) _).setCell (by simp <;> omega) _).setCell (by simp <;> omega) _)
end Go.Proofs.Ytnldlbglgalbaab
