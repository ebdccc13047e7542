/-
  Unit: the laws' own copies (written by gen/rec.py).
-/
import Derived.Test.YtndckeodpoommaaUnZ
import Derived.Test.YtndckeodpoommaaKoCopy
import Derived.Deep.DeepCutAuto
namespace Go.Proofs.Ytndckeodpoommaa
open Go.RowKit

theorem Un_far {w : World} {g : Nat} {T : TypeId} {cs : Array Value} (h : D.Blk w g T cs) {p : Addr} (hp : g ≠ p.block) (u : Value) : D.Blk (w.setCell p u) g T cs := (Below.heap_setCell _ _ _ _ hp).trans h

set_option maxRecDepth 100000 in
set_option maxHeartbeats 8000000 in
theorem Un_to_any (x : Un) (B : Nat) (w : World) (hbk0 : x.bulk ≤ 1500000) (hin : Un.E.In w B x) (hB : B ≤ w.heap.size) : Calls Try.prog 30 #[Un.val x] w (RetUn (Un.er x) w) := by
  have hbk : x.nm.size + x.g.length + x.b.bulk Ko.bulk ≤ 1500000 := hbk0
  clear hbk0
  obtain ⟨W1, hW1⟩ : ∃ W1, W1 = w.alloc (.cells #[.string x.nm, .slice x.gA x.g.length x.gC, .int .i64 x.b.a.k, .int .i64 x.b.a.n, .slice x.b.a.sA x.b.a.s.length x.b.a.sC, .int .i64 x.b.a.d.k, .int .i64 x.b.a.d.n, .string x.b.a.d.t, .slice x.b.a.d.A x.b.a.d.l.length x.b.a.d.c, .slice x.b.A x.b.l.length x.b.c] 67) := ⟨_, rfl⟩
  obtain ⟨W2, hW2⟩ : ∃ W2, W2 = W1.alloc (.cells #[.string ⟨#[]⟩, .slice none 0 0, .int .i64 0, .int .i64 0, .slice none 0 0, .int .i64 0, .int .i64 0, .string ⟨#[]⟩, .slice none 0 0, .slice none 0 0] 77) := ⟨_, rfl⟩
  obtain ⟨W3, hW3⟩ : ∃ W3, W3 = W2.alloc (.cells #[.string x.nm, .slice none 0 0, .int .i64 0, .int .i64 0, .slice none 0 0, .int .i64 0, .int .i64 0, .string ⟨#[]⟩, .slice none 0 0, .slice none 0 0] 77) := ⟨_, rfl⟩
  have z1 : W1.heap.size = w.heap.size + 1 := by rw [hW1]; simp
  have z2 : W2.heap.size = w.heap.size + 1 + 1 := by rw [hW2]; simp [z1]
  have z3 : W3.heap.size = w.heap.size + 1 + 1 + 1 := by rw [hW3]; simp [z2]
  have B1 : Below w.heap.size w W1 := by rw [hW1]; exact (Below.refl _ _).alloc (Nat.le_refl _) _
  have B2 : Below W1.heap.size W1 W2 := by rw [hW2]; exact (Below.refl _ _).alloc (Nat.le_refl _) _
  have B3 : Below W2.heap.size W2 W3 := by rw [hW3]; exact (Below.refl _ _).alloc (Nat.le_refl _) _
  have X0 : Un.Box W1 w.heap.size x := by rw [hW1]; exact Un.Box.new _ _ _
  have X0 := (X0.below B2 (by omega)).below B3 (by omega)
  have R0 : D.Blk W2 (w.heap.size + 1) 77 #[.string ⟨#[]⟩, .slice none 0 0, .int .i64 0, .int .i64 0, .slice none 0 0, .int .i64 0, .int .i64 0, .string ⟨#[]⟩, .slice none 0 0, .slice none 0 0] := by rw [hW2, ← z1]; exact D.Blk.new _ _ _
  have R0 := R0.below B3 (by omega)
  have O0 : D.Blk W3 (w.heap.size + 1 + 1) 77 #[.string x.nm, .slice none 0 0, .int .i64 0, .int .i64 0, .slice none 0 0, .int .i64 0, .int .i64 0, .string ⟨#[]⟩, .slice none 0 0, .slice none 0 0] := by rw [hW3, ← z2]; exact D.Blk.new _ _ _
  have b0 : Below w.heap.size w W3 := (B1.trans (B2.mono (by omega))).trans (B3.mono (by omega))
  have y3 : w.heap.size + 3 ≤ W3.heap.size := by omega
  have i0 := hin.below (b0.mono hB)
  unfold Un.val
  have X0q := X0
  obtain ⟨a0, a1, a2, a3, a4, a5, a6, a7, a8, a9⟩ := X0q
  go_enter Try.func30, Try.ntmps30
  go_wp2_with fail
  rw [← hW1, ← hW2, ← hW3]
  clear hW1 hW2 hW3 B1 B2 B3 z1 z2 z3 a0 a1 a2 a3 a4 a5 a6 a7 a8 a9
  refine (toI_any x.gA x.gC x.g B _ (by omega) (Un.E_in i0).g (by omega)).mono ?_
  rintro e v0 ⟨D0A, D0C, rfl, hod0, hq0⟩
  have zv0 := hq0.size
  have X0v := X0.below hq0 (by omega)
  have R0v := R0.below hq0 (by omega)
  have O0v := O0.below hq0 (by omega)
  have bv0 := b0.trans (hq0.mono (by omega))
  have P0 := hod0.wide (lo' := w.heap.size + 3) (by omega) (Nat.le_refl v0.heap.size)
  clear hod0
  clear hq0 X0 R0 O0 b0 i0
  have c0 : World.cell? v0 ⟨w.heap.size + 1 + 1, 0, none⟩ = some (.string x.nm) := O0v.cell 0
  have f0 := O0v.frozen 0
  have c1 : World.cell? v0 ⟨w.heap.size + 1 + 1, 1, none⟩ = some (.slice none 0 0) := O0v.cell 1
  have f1 := O0v.frozen 1
  have c2 : World.cell? v0 ⟨w.heap.size + 1 + 1, 2, none⟩ = some (.int .i64 0) := O0v.cell 2
  have f2 := O0v.frozen 2
  have c3 : World.cell? v0 ⟨w.heap.size + 1 + 1, 3, none⟩ = some (.int .i64 0) := O0v.cell 3
  have f3 := O0v.frozen 3
  have c4 : World.cell? v0 ⟨w.heap.size + 1 + 1, 4, none⟩ = some (.slice none 0 0) := O0v.cell 4
  have f4 := O0v.frozen 4
  have c5 : World.cell? v0 ⟨w.heap.size + 1 + 1, 5, none⟩ = some (.int .i64 0) := O0v.cell 5
  have f5 := O0v.frozen 5
  have c6 : World.cell? v0 ⟨w.heap.size + 1 + 1, 6, none⟩ = some (.int .i64 0) := O0v.cell 6
  have f6 := O0v.frozen 6
  have c7 : World.cell? v0 ⟨w.heap.size + 1 + 1, 7, none⟩ = some (.string ⟨#[]⟩) := O0v.cell 7
  have f7 := O0v.frozen 7
  have c8 : World.cell? v0 ⟨w.heap.size + 1 + 1, 8, none⟩ = some (.slice none 0 0) := O0v.cell 8
  have f8 := O0v.frozen 8
  have c9 : World.cell? v0 ⟨w.heap.size + 1 + 1, 9, none⟩ = some (.slice none 0 0) := O0v.cell 9
  have f9 := O0v.frozen 9
  have X0q := X0v
  obtain ⟨a0, a1, a2, a3, a4, a5, a6, a7, a8, a9⟩ := X0q
  go_wp2_with fail
  obtain ⟨U1, hU1⟩ : ∃ U, U = (v0.setCell ⟨w.heap.size + 1 + 1, 1, none⟩ (.slice D0A x.g.length D0C)) := ⟨_, rfl⟩
  rw [← hU1]
  have O1 : D.Blk U1 (w.heap.size + 1 + 1) 77 #[.string x.nm, .slice D0A x.g.length D0C, .int .i64 0, .int .i64 0, .slice none 0 0, .int .i64 0, .int .i64 0, .string ⟨#[]⟩, .slice none 0 0, .slice none 0 0] := by rw [hU1]; have := (O0v.set_ 1 (.slice D0A x.g.length D0C)); simpa using this
  have R1 : D.Blk U1 (w.heap.size + 1) 77 #[.string ⟨#[]⟩, .slice none 0 0, .int .i64 0, .int .i64 0, .slice none 0 0, .int .i64 0, .int .i64 0, .string ⟨#[]⟩, .slice none 0 0, .slice none 0 0] := by rw [hU1]; exact (Un_far R0v (by simp) _)
  have X1 : Un.Box U1 w.heap.size x := by rw [hU1]; exact (X0v.keep (Below.heap_setCell _ _ _ _ (by simp; omega)))
  have b1 : Below w.heap.size w U1 := by rw [hU1]; exact (bv0.setCell (by simp; omega) _)
  have y1 : U1.heap.size = v0.heap.size := by rw [hU1]; simp
  have P0 : IOwn (w.heap.size + 3) v0.heap.size U1 D0A D0C x.g := by rw [hU1]; exact (P0.far (by simp <;> omega) _)
  have i1 := hin.below (b1.mono hB)
  have yl1 : v0.heap.size ≤ U1.heap.size := by omega
  have yu1 : U1.heap.size ≤ v0.heap.size := by omega
  clear hU1 O0v R0v X0v bv0 y1 c0 f0 a0 c1 f1 a1 c2 f2 a2 c3 f3 a3 c4 f4 a4 c5 f5 a5 c6 f6 a6 c7 f7 a7 c8 f8 a8 c9 f9 a9
  refine (Ko_to_any _ x.b B _ (by omega) (Nat.le_refl _) (Un.E_in i1).b (by omega)).mono ?_
  rintro e v1 ⟨D1, rfl, he1, hod1, hq1⟩
  have zv1 := hq1.size
  have HE1 := Lib.hid he1
  clear he1
  have P0 := P0.below (hq1.mono (by omega))
  have X1v := X1.below hq1 (by omega)
  have R1v := R1.below hq1 (by omega)
  have O1v := O1.below hq1 (by omega)
  have bv1 := b1.trans (hq1.mono (by omega))
  have P1 := hod1.wide (lo' := v0.heap.size) (by omega) (Nat.le_refl v1.heap.size)
  clear hod1
  clear hq1 X1 R1 O1 b1 i1
  have c0 : World.cell? v1 ⟨w.heap.size + 1 + 1, 0, none⟩ = some (.string x.nm) := O1v.cell 0
  have f0 := O1v.frozen 0
  have c1 : World.cell? v1 ⟨w.heap.size + 1 + 1, 1, none⟩ = some (.slice D0A x.g.length D0C) := O1v.cell 1
  have f1 := O1v.frozen 1
  have c2 : World.cell? v1 ⟨w.heap.size + 1 + 1, 2, none⟩ = some (.int .i64 0) := O1v.cell 2
  have f2 := O1v.frozen 2
  have c3 : World.cell? v1 ⟨w.heap.size + 1 + 1, 3, none⟩ = some (.int .i64 0) := O1v.cell 3
  have f3 := O1v.frozen 3
  have c4 : World.cell? v1 ⟨w.heap.size + 1 + 1, 4, none⟩ = some (.slice none 0 0) := O1v.cell 4
  have f4 := O1v.frozen 4
  have c5 : World.cell? v1 ⟨w.heap.size + 1 + 1, 5, none⟩ = some (.int .i64 0) := O1v.cell 5
  have f5 := O1v.frozen 5
  have c6 : World.cell? v1 ⟨w.heap.size + 1 + 1, 6, none⟩ = some (.int .i64 0) := O1v.cell 6
  have f6 := O1v.frozen 6
  have c7 : World.cell? v1 ⟨w.heap.size + 1 + 1, 7, none⟩ = some (.string ⟨#[]⟩) := O1v.cell 7
  have f7 := O1v.frozen 7
  have c8 : World.cell? v1 ⟨w.heap.size + 1 + 1, 8, none⟩ = some (.slice none 0 0) := O1v.cell 8
  have f8 := O1v.frozen 8
  have c9 : World.cell? v1 ⟨w.heap.size + 1 + 1, 9, none⟩ = some (.slice none 0 0) := O1v.cell 9
  have f9 := O1v.frozen 9
  have X1q := X1v
  obtain ⟨a0, a1, a2, a3, a4, a5, a6, a7, a8, a9⟩ := X1q
  simp only [Ko.val]
  go_upto_region 5 with fail
  obtain ⟨U2, hU2⟩ : ∃ U, U = ((((((((v1.setCell ⟨w.heap.size + 1 + 1, 2, none⟩ (.int .i64 D1.a.k)).setCell ⟨w.heap.size + 1 + 1, 3, none⟩ (.int .i64 D1.a.n)).setCell ⟨w.heap.size + 1 + 1, 4, none⟩ (.slice D1.a.sA D1.a.s.length D1.a.sC)).setCell ⟨w.heap.size + 1 + 1, 5, none⟩ (.int .i64 D1.a.d.k)).setCell ⟨w.heap.size + 1 + 1, 6, none⟩ (.int .i64 D1.a.d.n)).setCell ⟨w.heap.size + 1 + 1, 7, none⟩ (.string D1.a.d.t)).setCell ⟨w.heap.size + 1 + 1, 8, none⟩ (.slice D1.a.d.A D1.a.d.l.length D1.a.d.c)).setCell ⟨w.heap.size + 1 + 1, 9, none⟩ (.slice D1.A D1.l.length D1.c)) := ⟨_, rfl⟩
  rw [← hU2]
  have O2 : D.Blk U2 (w.heap.size + 1 + 1) 77 #[.string x.nm, .slice D0A x.g.length D0C, .int .i64 D1.a.k, .int .i64 D1.a.n, .slice D1.a.sA D1.a.s.length D1.a.sC, .int .i64 D1.a.d.k, .int .i64 D1.a.d.n, .string D1.a.d.t, .slice D1.a.d.A D1.a.d.l.length D1.a.d.c, .slice D1.A D1.l.length D1.c] := by rw [hU2]; have := ((((((((O1v.set_ 2 (.int .i64 D1.a.k)).set_ 3 (.int .i64 D1.a.n)).set_ 4 (.slice D1.a.sA D1.a.s.length D1.a.sC)).set_ 5 (.int .i64 D1.a.d.k)).set_ 6 (.int .i64 D1.a.d.n)).set_ 7 (.string D1.a.d.t)).set_ 8 (.slice D1.a.d.A D1.a.d.l.length D1.a.d.c)).set_ 9 (.slice D1.A D1.l.length D1.c)); simpa using this
  have R2 : D.Blk U2 (w.heap.size + 1) 77 #[.string ⟨#[]⟩, .slice none 0 0, .int .i64 0, .int .i64 0, .slice none 0 0, .int .i64 0, .int .i64 0, .string ⟨#[]⟩, .slice none 0 0, .slice none 0 0] := by rw [hU2]; exact (Un_far (Un_far (Un_far (Un_far (Un_far (Un_far (Un_far (Un_far R1v (by simp) _) (by simp) _) (by simp) _) (by simp) _) (by simp) _) (by simp) _) (by simp) _) (by simp) _)
  have b2 : Below w.heap.size w U2 := by rw [hU2]; exact ((((((((bv1.setCell (by simp; omega) _).setCell (by simp; omega) _).setCell (by simp; omega) _).setCell (by simp; omega) _).setCell (by simp; omega) _).setCell (by simp; omega) _).setCell (by simp; omega) _).setCell (by simp; omega) _)
  have y2 : U2.heap.size = v1.heap.size := by rw [hU2]; simp
  have P0 : IOwn (w.heap.size + 3) v0.heap.size U2 D0A D0C x.g := by rw [hU2]; exact ((((((((P0.far (by simp <;> omega) _).far (by simp <;> omega) _).far (by simp <;> omega) _).far (by simp <;> omega) _).far (by simp <;> omega) _).far (by simp <;> omega) _).far (by simp <;> omega) _).far (by simp <;> omega) _)
  have P1 : Ko.E.Own (v0.heap.size) v1.heap.size U2 D1 := by rw [hU2]; exact ((((((((P1.far (by simp <;> omega) _).far (by simp <;> omega) _).far (by simp <;> omega) _).far (by simp <;> omega) _).far (by simp <;> omega) _).far (by simp <;> omega) _).far (by simp <;> omega) _).far (by simp <;> omega) _)
  have yl2 : v1.heap.size ≤ U2.heap.size := by omega
  have yu2 : U2.heap.size ≤ v1.heap.size := by omega
  clear hU2 O1v R1v X1v bv1 y2 c0 f0 a0 c1 f1 a1 c2 f2 a2 c3 f3 a3 c4 f4 a4 c5 f5 a5 c6 f6 a6 c7 f7 a7 c8 f8 a8 c9 f9 a9
  have c0 : World.cell? U2 ⟨w.heap.size + 1 + 1, 0, none⟩ = some (.string x.nm) := O2.cell 0
  have c1 : World.cell? U2 ⟨w.heap.size + 1 + 1, 1, none⟩ = some (.slice D0A x.g.length D0C) := O2.cell 1
  have c2 : World.cell? U2 ⟨w.heap.size + 1 + 1, 2, none⟩ = some (.int .i64 D1.a.k) := O2.cell 2
  have c3 : World.cell? U2 ⟨w.heap.size + 1 + 1, 3, none⟩ = some (.int .i64 D1.a.n) := O2.cell 3
  have c4 : World.cell? U2 ⟨w.heap.size + 1 + 1, 4, none⟩ = some (.slice D1.a.sA D1.a.s.length D1.a.sC) := O2.cell 4
  have c5 : World.cell? U2 ⟨w.heap.size + 1 + 1, 5, none⟩ = some (.int .i64 D1.a.d.k) := O2.cell 5
  have c6 : World.cell? U2 ⟨w.heap.size + 1 + 1, 6, none⟩ = some (.int .i64 D1.a.d.n) := O2.cell 6
  have c7 : World.cell? U2 ⟨w.heap.size + 1 + 1, 7, none⟩ = some (.string D1.a.d.t) := O2.cell 7
  have c8 : World.cell? U2 ⟨w.heap.size + 1 + 1, 8, none⟩ = some (.slice D1.a.d.A D1.a.d.l.length D1.a.d.c) := O2.cell 8
  have c9 : World.cell? U2 ⟨w.heap.size + 1 + 1, 9, none⟩ = some (.slice D1.A D1.l.length D1.c) := O2.cell 9
  have r0 : World.cell? U2 ⟨w.heap.size + 1, 0, none⟩ = some (.string ⟨#[]⟩) := R2.cell 0
  have g0 := R2.frozen 0
  have r1 : World.cell? U2 ⟨w.heap.size + 1, 1, none⟩ = some (.slice none 0 0) := R2.cell 1
  have g1 := R2.frozen 1
  have r2 : World.cell? U2 ⟨w.heap.size + 1, 2, none⟩ = some (.int .i64 0) := R2.cell 2
  have g2 := R2.frozen 2
  have r3 : World.cell? U2 ⟨w.heap.size + 1, 3, none⟩ = some (.int .i64 0) := R2.cell 3
  have g3 := R2.frozen 3
  have r4 : World.cell? U2 ⟨w.heap.size + 1, 4, none⟩ = some (.slice none 0 0) := R2.cell 4
  have g4 := R2.frozen 4
  have r5 : World.cell? U2 ⟨w.heap.size + 1, 5, none⟩ = some (.int .i64 0) := R2.cell 5
  have g5 := R2.frozen 5
  have r6 : World.cell? U2 ⟨w.heap.size + 1, 6, none⟩ = some (.int .i64 0) := R2.cell 6
  have g6 := R2.frozen 6
  have r7 : World.cell? U2 ⟨w.heap.size + 1, 7, none⟩ = some (.string ⟨#[]⟩) := R2.cell 7
  have g7 := R2.frozen 7
  have r8 : World.cell? U2 ⟨w.heap.size + 1, 8, none⟩ = some (.slice none 0 0) := R2.cell 8
  have g8 := R2.frozen 8
  have r9 : World.cell? U2 ⟨w.heap.size + 1, 9, none⟩ = some (.slice none 0 0) := R2.cell 9
  have g9 := R2.frozen 9
  have PP : Hid (Un.E.Own (w.heap.size + 3) v1.heap.size U2 (⟨x.nm, D0A, D0C, x.g, D1⟩ : Un)) := Un.own_of (x := (⟨x.nm, D0A, D0C, x.g, D1⟩ : Un)) P0 P1 (by omega) (by omega) (Un.E_in hin).nm
  clear P0 P1 O2 R2
  go_wp2_with fail
  refine bodyPost_ret (v := .agg #[.string x.nm, .slice D0A x.g.length D0C, .int .i64 D1.a.k, .int .i64 D1.a.n, .slice D1.a.sA D1.a.s.length D1.a.sC, .int .i64 D1.a.d.k, .int .i64 D1.a.d.n, .string D1.a.d.t, .slice D1.a.d.A D1.a.d.l.length D1.a.d.c, .slice D1.A D1.l.length D1.c]) (by simp [results, Try.results30, go_sem, r0, r1, r2, r3, r4, r5, r6, r7, r8, r9]) rfl ⟨(⟨x.nm, D0A, D0C, x.g, D1⟩ : Un), rfl, ?_, ?_, ?_⟩
  · show Un.er _ = _
    simp only [Un.er, HE1.out]
  · simp only [World.size_setCell]
    exact ((((((((((PP.out.far (by simp <;> omega) _).far (by simp <;> omega) _).far (by simp <;> omega) _).far (by simp <;> omega) _).far (by simp <;> omega) _).far (by simp <;> omega) _).far (by simp <;> omega) _).far (by simp <;> omega) _).far (by simp <;> omega) _).far (by simp <;> omega) _).wide (by omega) (by omega)
  · exact ((((((((((b2.setCell (by simp <;> omega) _).setCell (by simp <;> omega) _).setCell (by simp <;> omega) _).setCell (by simp <;> omega) _).setCell (by simp <;> omega) _).setCell (by simp <;> omega) _).setCell (by simp <;> omega) _).setCell (by simp <;> omega) _).setCell (by simp <;> omega) _).setCell (by simp <;> omega) _)
end Go.Proofs.Ytndckeodpoommaa
