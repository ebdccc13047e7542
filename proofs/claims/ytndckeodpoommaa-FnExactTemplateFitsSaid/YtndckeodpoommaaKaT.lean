/-
  Capture: the laws' own copies (written by gen/tree.py).
-/
import Derived.Test.YtndckeodpoommaaKaZ
namespace Go.Proofs.Ytndckeodpoommaa
open Go.RowKit

def KaToOk (m : Nat) : Prop := ∀ (d : Tr Ka) (B : Nat) (w : World), d.bulk Ka.bulk ≤ 1500000 → d.size ≤ m → Ka.E.In w B d → B ≤ w.heap.size → Calls Try.prog 72 #[Ka.val d] w (RetKa (d.er Ka.er) w)
def KaToLOk (m : Nat) : Prop := ∀ (A : Option Addr) (c : Nat) (l : List (Tr Ka)) (B : Nat) (w : World), Tr.bulkL Ka.bulk l ≤ 1500000 → Tr.sizeL l ≤ m → Ka.E.LIn w B A c l → B ≤ w.heap.size → Calls Try.prog 37 #[.slice A l.length c] w (RetKaL (Tr.erL Ka.er l) w)
theorem Ka_info : (Try.prog.info? 122).map (fun i => (i.zero, i.size, i.bytes)) = some (some (.agg #[.int .i64 0, .int .i64 0, .string ⟨#[]⟩, .slice none 0 0, .slice none 0 0, .int .i64 0, .int .i64 0, .int .i64 0, .string ⟨#[]⟩, .slice none 0 0, .slice none 0 0, .slice none 0 0]), 12, 192) := by kernel_rfl
theorem Ka_far {w : World} {g : Nat} {T : TypeId} {cs : Array Value} (h : D.Blk w g T cs) {p : Addr} (hp : g ≠ p.block) (u : Value) : D.Blk (w.setCell p u) g T cs := (Below.heap_setCell _ _ _ _ hp).trans h
theorem Ka.own_head {l0 l1 l2 : Nat} {w : World} {x : Ka} (h_N : x.N.Own l0 l1 w) (h_F : x.F.Own l1 l2 w) (h0 : l0 ≤ l1) (h1 : l1 ≤ l2) : Ka.H.Own l0 l2 w x := by
  refine ⟨⟨h_N.inn.more h1, h_F.inn⟩, fun k hk => ?_, ?_, fun k hk o => ?_⟩
  · rcases List.mem_append.1 hk with hk | hk
    · exact h_N.lo_ k hk
    · have := h_F.lo_ k hk; omega
  · refine List.nodup_append.2 ⟨h_N.nd, h_F.nd, fun p hp q hq e => ?_⟩
    have := h_N.inn.blk_lt p hp
    have := h_F.lo_ q hq
    omega
  · rcases List.mem_append.1 hk with hk | hk
    · exact h_N.fr k hk o
    · exact h_F.fr k hk o


set_option maxRecDepth 100000 in
set_option maxHeartbeats 2000000 in
theorem Ka_toL_step (m : Nat) (ih : KaToOk m) : KaToLOk m := by
  intro A c l B w hbk hm hin hB
  have hcap := hin.cap
  have hll := Tr.length_le_sizeL l
  have hlb := Tr.sizeL_le_bulkL Ka.bulk l
  obtain ⟨i0, hi0, hz0, hz1, hz2⟩ := info_parts Ka_info
  have hmk := fun W => run_make_rowN (P := Try.prog) 89 122 i0 _ Try.underlying89 hi0 hz0 .i64 .i64 l.length l.length (Nat.le_refl _) (by rw [hz2]; omega) (by omega) W
  rw [hz1] at hmk
  go_enter Try.func37, Try.ntmps37
  go_wp2_with fail
  go_loopw [4] (fun i wr => ∃ j : Nat, j ≤ l.length ∧ i = .int .i64 j ∧ ∃ ds : List (Tr Ka), Hid (Tr.erL Ka.er ds = Tr.erL Ka.er (l.take j)) ∧ ds.length ≤ j ∧ j ≤ ds.length ∧ Ka.E.Fill wr w.heap.size 122 l.length ds ∧ Below w.heap.size w wr) (fun i _ => l.length - (intOf i).toNat)
  case atStart => exact ⟨0, Nat.zero_le _, rfl, [], by simp [Tr.erL, Hid], Nat.le_refl _, Nat.le_refl _, Elem.Fill.new w _ (by rw [size_madeCells]; show l.length * 12 = 12 * l.length; omega), (Below.refl _ _).alloc (Nat.le_refl _) _⟩
  case round =>
    obtain ⟨j, hj, rfl, ds, HE, hd1, hd2, hF, hb⟩ := hrel
    by_cases hlt : j < l.length
    · obtain ⟨b, o, rfl, hblk, c0, c1, c2, c3, c4, c5, c6, c7, c8, c9, c10, c11, hix⟩ := Ka.at_ (hin.below (hb.mono hB)) (i := j) (x := l[j]) (List.getElem?_eq_getElem hlt)
      have hs2 := hb.size
      have hsz := Tr.sizeL_mem (l := l) (List.getElem_mem hlt)
      have hbk1 := Tr.bulkL_mem (f := Ka.bulk) (l := l) (List.getElem_mem hlt)
      have hglt : w.heap.size < wr.heap.size := hF.row.lt
      go_wp2_with fail
      refine (ih l[j] B _ (by omega) (by omega) hix (by omega)).mono ?_
      rintro e w1 ⟨d, rfl, hde, hod, hb1⟩
      have hrow1 := hF.row.below hb1 hglt
      have e4 : Ka.E.n = 12 := rfl
      obtain ⟨v0, hc0⟩ := hrow1.old (i := j * 12) (by rw [e4]; omega)
      have f0 := hrow1.frozen (j * 12)
      obtain ⟨v1, hc1⟩ := hrow1.old (i := j * 12 + 1) (by rw [e4]; omega)
      have f1 := hrow1.frozen (j * 12 + 1)
      obtain ⟨v2, hc2⟩ := hrow1.old (i := j * 12 + 2) (by rw [e4]; omega)
      have f2 := hrow1.frozen (j * 12 + 2)
      obtain ⟨v3, hc3⟩ := hrow1.old (i := j * 12 + 3) (by rw [e4]; omega)
      have f3 := hrow1.frozen (j * 12 + 3)
      obtain ⟨v4, hc4⟩ := hrow1.old (i := j * 12 + 4) (by rw [e4]; omega)
      have f4 := hrow1.frozen (j * 12 + 4)
      obtain ⟨v5, hc5⟩ := hrow1.old (i := j * 12 + 5) (by rw [e4]; omega)
      have f5 := hrow1.frozen (j * 12 + 5)
      obtain ⟨v6, hc6⟩ := hrow1.old (i := j * 12 + 6) (by rw [e4]; omega)
      have f6 := hrow1.frozen (j * 12 + 6)
      obtain ⟨v7, hc7⟩ := hrow1.old (i := j * 12 + 7) (by rw [e4]; omega)
      have f7 := hrow1.frozen (j * 12 + 7)
      obtain ⟨v8, hc8⟩ := hrow1.old (i := j * 12 + 8) (by rw [e4]; omega)
      have f8 := hrow1.frozen (j * 12 + 8)
      obtain ⟨v9, hc9⟩ := hrow1.old (i := j * 12 + 9) (by rw [e4]; omega)
      have f9 := hrow1.frozen (j * 12 + 9)
      obtain ⟨v10, hc10⟩ := hrow1.old (i := j * 12 + 10) (by rw [e4]; omega)
      have f10 := hrow1.frozen (j * 12 + 10)
      obtain ⟨v11, hc11⟩ := hrow1.old (i := j * 12 + 11) (by rw [e4]; omega)
      have f11 := hrow1.frozen (j * 12 + 11)
      have hst := hF.step hb1 hod (by omega)
      have ej : Ka.E.n * ds.length = j * 12 := by rw [e4]; omega
      rw [ej] at hst
      have Hst := Lib.hid hst
      have Hde := Lib.hid hde
      clear hde hst e4 ej hrow1
      simp only [Ka.val]
      go_wp2_with fail
      refine ⟨⟨j + 1, by omega, by go_num, ds ++ [d], ?_, by simp; omega, by simp; omega, Hst.out, ?_⟩, by simp [intOf]; omega⟩
      · show _ = _
        rw [List.take_succ_eq_append_getElem hlt, Tr.erL_append, Tr.erL_append, HE.out]
        simp [Tr.erL, Hde.out]
      · exact ((((((((((((hb.trans (hb1.mono (by omega))).setCell (by simp) _).setCell (by simp) _).setCell (by simp) _).setCell (by simp) _).setCell (by simp) _).setCell (by simp) _).setCell (by simp) _).setCell (by simp) _).setCell (by simp) _).setCell (by simp) _).setCell (by simp) _).setCell (by simp) _
    · have hj' : j = l.length := by omega
      have hj'' : ds.length = l.length := by omega
      subst hj'
      have hdone := hF.done hj'' (by omega)
      have HE' := HE.out
      rw [List.take_length] at HE'
      have HR := Lib.hid HE'
      have HL := Lib.hid hj''
      clear hj'' HE'
      go_wp2_with fail
      go_ret
      exact ⟨some ⟨w.heap.size, 0, none⟩, l.length, ds, ret_sl HL.out.symm, HR.out, hdone, hb⟩

set_option maxRecDepth 100000 in
set_option maxHeartbeats 8000000 in
theorem Ka_to_step (m : Nat) (ihL : KaToLOk m) : KaToOk (m + 1) := by
  intro x B w hbk hm hin hB
  have hmm : Tr.sizeL x.l ≤ m := by rw [Tr.size_eq] at hm; omega
  rw [Tr.bulk_eq] at hbk
  have hbk0 : x.a.N.bulk + x.a.F.bulk + Tr.bulkL Ka.bulk x.l ≤ 1500000 := hbk
  clear hbk
  have hz_N : x.a.N.size ≤ 2000000 := by have := S.bulk_size x.a.N; omega
  have hz_F : x.a.F.size ≤ 2000000 := by have := S.bulk_size x.a.F; omega
  obtain ⟨W1, hW1⟩ : ∃ W1, W1 = w.alloc (.cells #[.int .i64 x.a.N.k, .int .i64 x.a.N.n, .string x.a.N.t, .slice x.a.N.sa x.a.N.s.length x.a.N.sc, .slice x.a.N.A x.a.N.l.length x.a.N.c, .int .i64 x.a.dep, .int .i64 x.a.F.k, .int .i64 x.a.F.n, .string x.a.F.t, .slice x.a.F.sa x.a.F.s.length x.a.F.sc, .slice x.a.F.A x.a.F.l.length x.a.F.c, .slice x.A x.l.length x.c] 119) := ⟨_, rfl⟩
  obtain ⟨W2, hW2⟩ : ∃ W2, W2 = W1.alloc (.cells #[.int .i64 0, .int .i64 0, .string ⟨#[]⟩, .slice none 0 0, .slice none 0 0, .int .i64 0, .int .i64 0, .int .i64 0, .string ⟨#[]⟩, .slice none 0 0, .slice none 0 0, .slice none 0 0] 122) := ⟨_, rfl⟩
  obtain ⟨W3, hW3⟩ : ∃ W3, W3 = W2.alloc (.cells #[.int .i64 0, .int .i64 0, .string ⟨#[]⟩, .slice none 0 0, .slice none 0 0, .int .i64 0, .int .i64 0, .int .i64 0, .string ⟨#[]⟩, .slice none 0 0, .slice none 0 0, .slice none 0 0] 122) := ⟨_, rfl⟩
  have z1 : W1.heap.size = w.heap.size + 1 := by rw [hW1]; simp
  have z2 : W2.heap.size = w.heap.size + 1 + 1 := by rw [hW2]; simp [z1]
  have z3 : W3.heap.size = w.heap.size + 1 + 1 + 1 := by rw [hW3]; simp [z2]
  have B1 : Below w.heap.size w W1 := by rw [hW1]; exact (Below.refl _ _).alloc (Nat.le_refl _) _
  have B2 : Below W1.heap.size W1 W2 := by rw [hW2]; exact (Below.refl _ _).alloc (Nat.le_refl _) _
  have B3 : Below W2.heap.size W2 W3 := by rw [hW3]; exact (Below.refl _ _).alloc (Nat.le_refl _) _
  have X0 : Ka.Box W1 w.heap.size x := by rw [hW1]; exact Ka.Box.new _ _ _
  have X0 := (X0.below B2 (by omega)).below B3 (by omega)
  have R0 : D.Blk W2 (w.heap.size + 1) 122 #[.int .i64 0, .int .i64 0, .string ⟨#[]⟩, .slice none 0 0, .slice none 0 0, .int .i64 0, .int .i64 0, .int .i64 0, .string ⟨#[]⟩, .slice none 0 0, .slice none 0 0, .slice none 0 0] := by rw [hW2, ← z1]; exact D.Blk.new _ _ _
  have R0 := R0.below B3 (by omega)
  have O0 : D.Blk W3 (w.heap.size + 1 + 1) 122 #[.int .i64 0, .int .i64 0, .string ⟨#[]⟩, .slice none 0 0, .slice none 0 0, .int .i64 0, .int .i64 0, .int .i64 0, .string ⟨#[]⟩, .slice none 0 0, .slice none 0 0, .slice none 0 0] := by rw [hW3, ← z2]; exact D.Blk.new _ _ _
  have b0 : Below w.heap.size w W3 := (B1.trans (B2.mono (by omega))).trans (B3.mono (by omega))
  have y3 : w.heap.size + 3 ≤ W3.heap.size := by omega
  have i0 := hin.below (b0.mono hB)
  unfold Ka.val
  have X0q := X0
  obtain ⟨a0, a1, a2, a3, a4, a5, a6, a7, a8, a9, a10, a11⟩ := X0q
  go_enter Try.func72, Try.ntmps72
  go_wp2_with fail
  rw [← hW1, ← hW2, ← hW3]
  clear hW1 hW2 hW3 B1 B2 B3 z1 z2 z3 a0 a1 a2 a3 a4 a5 a6 a7 a8 a9 a10 a11
  refine (sto_any 2000000 x.a.N B _ (by omega) hz_N (by omega) (Ka.E_in i0).1.N (by omega)).mono ?_
  rintro e v0 ⟨D0, rfl, he0, hod0, hq0⟩
  have zv0 := hq0.size
  have HE0 := Lib.hid he0
  clear he0
  have X0v := X0.below hq0 (by omega)
  have R0v := R0.below hq0 (by omega)
  have O0v := O0.below hq0 (by omega)
  have bv0 := b0.trans (hq0.mono (by omega))
  have P0 := hod0.wide (lo' := w.heap.size + 3) (by omega) (Nat.le_refl v0.heap.size)
  clear hod0
  clear hq0 X0 R0 O0 b0 i0
  have c0 : World.cell? v0 ⟨w.heap.size + 1 + 1, 0, none⟩ = some (.int .i64 0) := O0v.cell 0
  have f0 := O0v.frozen 0
  have c1 : World.cell? v0 ⟨w.heap.size + 1 + 1, 1, none⟩ = some (.int .i64 0) := O0v.cell 1
  have f1 := O0v.frozen 1
  have c2 : World.cell? v0 ⟨w.heap.size + 1 + 1, 2, none⟩ = some (.string ⟨#[]⟩) := O0v.cell 2
  have f2 := O0v.frozen 2
  have c3 : World.cell? v0 ⟨w.heap.size + 1 + 1, 3, none⟩ = some (.slice none 0 0) := O0v.cell 3
  have f3 := O0v.frozen 3
  have c4 : World.cell? v0 ⟨w.heap.size + 1 + 1, 4, none⟩ = some (.slice none 0 0) := O0v.cell 4
  have f4 := O0v.frozen 4
  have c5 : World.cell? v0 ⟨w.heap.size + 1 + 1, 5, none⟩ = some (.int .i64 0) := O0v.cell 5
  have f5 := O0v.frozen 5
  have c6 : World.cell? v0 ⟨w.heap.size + 1 + 1, 6, none⟩ = some (.int .i64 0) := O0v.cell 6
  have f6 := O0v.frozen 6
  have c7 : World.cell? v0 ⟨w.heap.size + 1 + 1, 7, none⟩ = some (.int .i64 0) := O0v.cell 7
  have f7 := O0v.frozen 7
  have c8 : World.cell? v0 ⟨w.heap.size + 1 + 1, 8, none⟩ = some (.string ⟨#[]⟩) := O0v.cell 8
  have f8 := O0v.frozen 8
  have c9 : World.cell? v0 ⟨w.heap.size + 1 + 1, 9, none⟩ = some (.slice none 0 0) := O0v.cell 9
  have f9 := O0v.frozen 9
  have c10 : World.cell? v0 ⟨w.heap.size + 1 + 1, 10, none⟩ = some (.slice none 0 0) := O0v.cell 10
  have f10 := O0v.frozen 10
  have c11 : World.cell? v0 ⟨w.heap.size + 1 + 1, 11, none⟩ = some (.slice none 0 0) := O0v.cell 11
  have f11 := O0v.frozen 11
  have X0q := X0v
  obtain ⟨a0, a1, a2, a3, a4, a5, a6, a7, a8, a9, a10, a11⟩ := X0q
  simp only [S.val]
  go_wp2_with fail
  obtain ⟨U1, hU1⟩ : ∃ U, U = ((((((v0.setCell ⟨w.heap.size + 1 + 1, 0, none⟩ (.int .i64 D0.k)).setCell ⟨w.heap.size + 1 + 1, 1, none⟩ (.int .i64 D0.n)).setCell ⟨w.heap.size + 1 + 1, 2, none⟩ (.string D0.t)).setCell ⟨w.heap.size + 1 + 1, 3, none⟩ (.slice D0.sa D0.s.length D0.sc)).setCell ⟨w.heap.size + 1 + 1, 4, none⟩ (.slice D0.A D0.l.length D0.c)).setCell ⟨w.heap.size + 1 + 1, 5, none⟩ (.int .i64 x.a.dep)) := ⟨_, rfl⟩
  rw [← hU1]
  have O1 : D.Blk U1 (w.heap.size + 1 + 1) 122 #[.int .i64 D0.k, .int .i64 D0.n, .string D0.t, .slice D0.sa D0.s.length D0.sc, .slice D0.A D0.l.length D0.c, .int .i64 x.a.dep, .int .i64 0, .int .i64 0, .string ⟨#[]⟩, .slice none 0 0, .slice none 0 0, .slice none 0 0] := by rw [hU1]; have := ((((((O0v.set_ 0 (.int .i64 D0.k)).set_ 1 (.int .i64 D0.n)).set_ 2 (.string D0.t)).set_ 3 (.slice D0.sa D0.s.length D0.sc)).set_ 4 (.slice D0.A D0.l.length D0.c)).set_ 5 (.int .i64 x.a.dep)); simpa using this
  have R1 : D.Blk U1 (w.heap.size + 1) 122 #[.int .i64 0, .int .i64 0, .string ⟨#[]⟩, .slice none 0 0, .slice none 0 0, .int .i64 0, .int .i64 0, .int .i64 0, .string ⟨#[]⟩, .slice none 0 0, .slice none 0 0, .slice none 0 0] := by rw [hU1]; exact (Ka_far (Ka_far (Ka_far (Ka_far (Ka_far (Ka_far R0v (by simp) _) (by simp) _) (by simp) _) (by simp) _) (by simp) _) (by simp) _)
  have X1 : Ka.Box U1 w.heap.size x := by rw [hU1]; exact ((((((X0v.keep (Below.heap_setCell _ _ _ _ (by simp; omega))).keep (Below.heap_setCell _ _ _ _ (by simp; omega))).keep (Below.heap_setCell _ _ _ _ (by simp; omega))).keep (Below.heap_setCell _ _ _ _ (by simp; omega))).keep (Below.heap_setCell _ _ _ _ (by simp; omega))).keep (Below.heap_setCell _ _ _ _ (by simp; omega)))
  have b1 : Below w.heap.size w U1 := by rw [hU1]; exact ((((((bv0.setCell (by simp; omega) _).setCell (by simp; omega) _).setCell (by simp; omega) _).setCell (by simp; omega) _).setCell (by simp; omega) _).setCell (by simp; omega) _)
  have y1 : U1.heap.size = v0.heap.size := by rw [hU1]; simp
  have P0 : D0.Own (w.heap.size + 3) v0.heap.size U1 := by rw [hU1]; exact ((((((P0.far (by simp <;> omega) _).far (by simp <;> omega) _).far (by simp <;> omega) _).far (by simp <;> omega) _).far (by simp <;> omega) _).far (by simp <;> omega) _)
  have i1 := hin.below (b1.mono hB)
  have yl1 : v0.heap.size ≤ U1.heap.size := by omega
  have yu1 : U1.heap.size ≤ v0.heap.size := by omega
  clear hU1 O0v R0v X0v bv0 y1 c0 f0 a0 c1 f1 a1 c2 f2 a2 c3 f3 a3 c4 f4 a4 c5 f5 a5 c6 f6 a6 c7 f7 a7 c8 f8 a8 c9 f9 a9 c10 f10 a10 c11 f11 a11
  refine (sto_any 2000000 x.a.F B _ (by omega) hz_F (by omega) (Ka.E_in i1).1.F (by omega)).mono ?_
  rintro e v1 ⟨D1, rfl, he1, hod1, hq1⟩
  have zv1 := hq1.size
  have HE1 := Lib.hid he1
  clear he1
  have P0 := P0.below (hq1.mono (by omega))
  have X1v := X1.below hq1 (by omega)
  have R1v := R1.below hq1 (by omega)
  have O1v := O1.below hq1 (by omega)
  have bv1 := b1.trans (hq1.mono (by omega))
  have P1 := hod1.wide (lo' := v0.heap.size) (by omega) (Nat.le_refl v1.heap.size)
  clear hod1
  clear hq1 X1 R1 O1 b1 i1
  have c0 : World.cell? v1 ⟨w.heap.size + 1 + 1, 0, none⟩ = some (.int .i64 D0.k) := O1v.cell 0
  have f0 := O1v.frozen 0
  have c1 : World.cell? v1 ⟨w.heap.size + 1 + 1, 1, none⟩ = some (.int .i64 D0.n) := O1v.cell 1
  have f1 := O1v.frozen 1
  have c2 : World.cell? v1 ⟨w.heap.size + 1 + 1, 2, none⟩ = some (.string D0.t) := O1v.cell 2
  have f2 := O1v.frozen 2
  have c3 : World.cell? v1 ⟨w.heap.size + 1 + 1, 3, none⟩ = some (.slice D0.sa D0.s.length D0.sc) := O1v.cell 3
  have f3 := O1v.frozen 3
  have c4 : World.cell? v1 ⟨w.heap.size + 1 + 1, 4, none⟩ = some (.slice D0.A D0.l.length D0.c) := O1v.cell 4
  have f4 := O1v.frozen 4
  have c5 : World.cell? v1 ⟨w.heap.size + 1 + 1, 5, none⟩ = some (.int .i64 x.a.dep) := O1v.cell 5
  have f5 := O1v.frozen 5
  have c6 : World.cell? v1 ⟨w.heap.size + 1 + 1, 6, none⟩ = some (.int .i64 0) := O1v.cell 6
  have f6 := O1v.frozen 6
  have c7 : World.cell? v1 ⟨w.heap.size + 1 + 1, 7, none⟩ = some (.int .i64 0) := O1v.cell 7
  have f7 := O1v.frozen 7
  have c8 : World.cell? v1 ⟨w.heap.size + 1 + 1, 8, none⟩ = some (.string ⟨#[]⟩) := O1v.cell 8
  have f8 := O1v.frozen 8
  have c9 : World.cell? v1 ⟨w.heap.size + 1 + 1, 9, none⟩ = some (.slice none 0 0) := O1v.cell 9
  have f9 := O1v.frozen 9
  have c10 : World.cell? v1 ⟨w.heap.size + 1 + 1, 10, none⟩ = some (.slice none 0 0) := O1v.cell 10
  have f10 := O1v.frozen 10
  have c11 : World.cell? v1 ⟨w.heap.size + 1 + 1, 11, none⟩ = some (.slice none 0 0) := O1v.cell 11
  have f11 := O1v.frozen 11
  have X1q := X1v
  obtain ⟨a0, a1, a2, a3, a4, a5, a6, a7, a8, a9, a10, a11⟩ := X1q
  simp only [S.val]
  go_wp2_with fail
  obtain ⟨U2, hU2⟩ : ∃ U, U = (((((v1.setCell ⟨w.heap.size + 1 + 1, 6, none⟩ (.int .i64 D1.k)).setCell ⟨w.heap.size + 1 + 1, 7, none⟩ (.int .i64 D1.n)).setCell ⟨w.heap.size + 1 + 1, 8, none⟩ (.string D1.t)).setCell ⟨w.heap.size + 1 + 1, 9, none⟩ (.slice D1.sa D1.s.length D1.sc)).setCell ⟨w.heap.size + 1 + 1, 10, none⟩ (.slice D1.A D1.l.length D1.c)) := ⟨_, rfl⟩
  rw [← hU2]
  have O2 : D.Blk U2 (w.heap.size + 1 + 1) 122 #[.int .i64 D0.k, .int .i64 D0.n, .string D0.t, .slice D0.sa D0.s.length D0.sc, .slice D0.A D0.l.length D0.c, .int .i64 x.a.dep, .int .i64 D1.k, .int .i64 D1.n, .string D1.t, .slice D1.sa D1.s.length D1.sc, .slice D1.A D1.l.length D1.c, .slice none 0 0] := by rw [hU2]; have := (((((O1v.set_ 6 (.int .i64 D1.k)).set_ 7 (.int .i64 D1.n)).set_ 8 (.string D1.t)).set_ 9 (.slice D1.sa D1.s.length D1.sc)).set_ 10 (.slice D1.A D1.l.length D1.c)); simpa using this
  have R2 : D.Blk U2 (w.heap.size + 1) 122 #[.int .i64 0, .int .i64 0, .string ⟨#[]⟩, .slice none 0 0, .slice none 0 0, .int .i64 0, .int .i64 0, .int .i64 0, .string ⟨#[]⟩, .slice none 0 0, .slice none 0 0, .slice none 0 0] := by rw [hU2]; exact (Ka_far (Ka_far (Ka_far (Ka_far (Ka_far R1v (by simp) _) (by simp) _) (by simp) _) (by simp) _) (by simp) _)
  have X2 : Ka.Box U2 w.heap.size x := by rw [hU2]; exact (((((X1v.keep (Below.heap_setCell _ _ _ _ (by simp; omega))).keep (Below.heap_setCell _ _ _ _ (by simp; omega))).keep (Below.heap_setCell _ _ _ _ (by simp; omega))).keep (Below.heap_setCell _ _ _ _ (by simp; omega))).keep (Below.heap_setCell _ _ _ _ (by simp; omega)))
  have b2 : Below w.heap.size w U2 := by rw [hU2]; exact (((((bv1.setCell (by simp; omega) _).setCell (by simp; omega) _).setCell (by simp; omega) _).setCell (by simp; omega) _).setCell (by simp; omega) _)
  have y2 : U2.heap.size = v1.heap.size := by rw [hU2]; simp
  have P0 : D0.Own (w.heap.size + 3) v0.heap.size U2 := by rw [hU2]; exact (((((P0.far (by simp <;> omega) _).far (by simp <;> omega) _).far (by simp <;> omega) _).far (by simp <;> omega) _).far (by simp <;> omega) _)
  have P1 : D1.Own (v0.heap.size) v1.heap.size U2 := by rw [hU2]; exact (((((P1.far (by simp <;> omega) _).far (by simp <;> omega) _).far (by simp <;> omega) _).far (by simp <;> omega) _).far (by simp <;> omega) _)
  have i2 := hin.below (b2.mono hB)
  have yl2 : v1.heap.size ≤ U2.heap.size := by omega
  have yu2 : U2.heap.size ≤ v1.heap.size := by omega
  clear hU2 O1v R1v X1v bv1 y2 c0 f0 a0 c1 f1 a1 c2 f2 a2 c3 f3 a3 c4 f4 a4 c5 f5 a5 c6 f6 a6 c7 f7 a7 c8 f8 a8 c9 f9 a9 c10 f10 a10 c11 f11 a11
  refine (ihL x.A x.c x.l B _ (by omega) hmm (Ka.E_in i2).2 (by omega)).mono ?_
  rintro e v2 ⟨KA, KC, KL, rfl, heK, hoK, hq2⟩
  have zv2 := hq2.size
  have HEK := Lib.hid heK
  clear heK
  have P0 := P0.below (hq2.mono (by omega))
  have P1 := P1.below (hq2.mono (by omega))
  have X2v := X2.below hq2 (by omega)
  have R2v := R2.below hq2 (by omega)
  have O2v := O2.below hq2 (by omega)
  have bv2 := b2.trans (hq2.mono (by omega))
  have PK := hoK.wide (lo' := v1.heap.size) (by omega) (Nat.le_refl v2.heap.size)
  clear hoK
  clear hq2 X2 R2 O2 b2 i2
  have c0 : World.cell? v2 ⟨w.heap.size + 1 + 1, 0, none⟩ = some (.int .i64 D0.k) := O2v.cell 0
  have c1 : World.cell? v2 ⟨w.heap.size + 1 + 1, 1, none⟩ = some (.int .i64 D0.n) := O2v.cell 1
  have c2 : World.cell? v2 ⟨w.heap.size + 1 + 1, 2, none⟩ = some (.string D0.t) := O2v.cell 2
  have c3 : World.cell? v2 ⟨w.heap.size + 1 + 1, 3, none⟩ = some (.slice D0.sa D0.s.length D0.sc) := O2v.cell 3
  have c4 : World.cell? v2 ⟨w.heap.size + 1 + 1, 4, none⟩ = some (.slice D0.A D0.l.length D0.c) := O2v.cell 4
  have c5 : World.cell? v2 ⟨w.heap.size + 1 + 1, 5, none⟩ = some (.int .i64 x.a.dep) := O2v.cell 5
  have c6 : World.cell? v2 ⟨w.heap.size + 1 + 1, 6, none⟩ = some (.int .i64 D1.k) := O2v.cell 6
  have c7 : World.cell? v2 ⟨w.heap.size + 1 + 1, 7, none⟩ = some (.int .i64 D1.n) := O2v.cell 7
  have c8 : World.cell? v2 ⟨w.heap.size + 1 + 1, 8, none⟩ = some (.string D1.t) := O2v.cell 8
  have c9 : World.cell? v2 ⟨w.heap.size + 1 + 1, 9, none⟩ = some (.slice D1.sa D1.s.length D1.sc) := O2v.cell 9
  have c10 : World.cell? v2 ⟨w.heap.size + 1 + 1, 10, none⟩ = some (.slice D1.A D1.l.length D1.c) := O2v.cell 10
  have c11 : World.cell? v2 ⟨w.heap.size + 1 + 1, 11, none⟩ = some (.slice none 0 0) := O2v.cell 11
  have f11 := O2v.frozen 11
  have r0 : World.cell? v2 ⟨w.heap.size + 1, 0, none⟩ = some (.int .i64 0) := R2v.cell 0
  have g0 := R2v.frozen 0
  have r1 : World.cell? v2 ⟨w.heap.size + 1, 1, none⟩ = some (.int .i64 0) := R2v.cell 1
  have g1 := R2v.frozen 1
  have r2 : World.cell? v2 ⟨w.heap.size + 1, 2, none⟩ = some (.string ⟨#[]⟩) := R2v.cell 2
  have g2 := R2v.frozen 2
  have r3 : World.cell? v2 ⟨w.heap.size + 1, 3, none⟩ = some (.slice none 0 0) := R2v.cell 3
  have g3 := R2v.frozen 3
  have r4 : World.cell? v2 ⟨w.heap.size + 1, 4, none⟩ = some (.slice none 0 0) := R2v.cell 4
  have g4 := R2v.frozen 4
  have r5 : World.cell? v2 ⟨w.heap.size + 1, 5, none⟩ = some (.int .i64 0) := R2v.cell 5
  have g5 := R2v.frozen 5
  have r6 : World.cell? v2 ⟨w.heap.size + 1, 6, none⟩ = some (.int .i64 0) := R2v.cell 6
  have g6 := R2v.frozen 6
  have r7 : World.cell? v2 ⟨w.heap.size + 1, 7, none⟩ = some (.int .i64 0) := R2v.cell 7
  have g7 := R2v.frozen 7
  have r8 : World.cell? v2 ⟨w.heap.size + 1, 8, none⟩ = some (.string ⟨#[]⟩) := R2v.cell 8
  have g8 := R2v.frozen 8
  have r9 : World.cell? v2 ⟨w.heap.size + 1, 9, none⟩ = some (.slice none 0 0) := R2v.cell 9
  have g9 := R2v.frozen 9
  have r10 : World.cell? v2 ⟨w.heap.size + 1, 10, none⟩ = some (.slice none 0 0) := R2v.cell 10
  have g10 := R2v.frozen 10
  have r11 : World.cell? v2 ⟨w.heap.size + 1, 11, none⟩ = some (.slice none 0 0) := R2v.cell 11
  have g11 := R2v.frozen 11
  have PP : Hid (Ka.E.Own (w.heap.size + 3) v2.heap.size v2 (Tr.mk (⟨D0, x.a.dep, D1⟩ : Ka) KA KC KL)) := Tr.own_of (Ka.own_head (x := ⟨D0, x.a.dep, D1⟩) P0 P1 (by omega) (by omega)) PK (by omega) (by omega)
  clear P0 P1 PK O2v R2v
  go_wp2_with fail
  refine bodyPost_ret (v := .agg #[.int .i64 D0.k, .int .i64 D0.n, .string D0.t, .slice D0.sa D0.s.length D0.sc, .slice D0.A D0.l.length D0.c, .int .i64 x.a.dep, .int .i64 D1.k, .int .i64 D1.n, .string D1.t, .slice D1.sa D1.s.length D1.sc, .slice D1.A D1.l.length D1.c, .slice KA KL.length KC]) (by simp [results, Try.results72, go_sem, r0, r1, r2, r3, r4, r5, r6, r7, r8, r9, r10, r11]) rfl ⟨(Tr.mk (⟨D0, x.a.dep, D1⟩ : Ka) KA KC KL), rfl, ?_, ?_, ?_⟩
  · show Tr.mk _ _ _ _ = _
    rw [HEK.out]
    simp only [Ka.er, HE0.out, HE1.out]
    cases x; rfl
  · simp only [World.size_setCell]
    exact (((((((((((((PP.out.far (by simp <;> omega) _).far (by simp <;> omega) _).far (by simp <;> omega) _).far (by simp <;> omega) _).far (by simp <;> omega) _).far (by simp <;> omega) _).far (by simp <;> omega) _).far (by simp <;> omega) _).far (by simp <;> omega) _).far (by simp <;> omega) _).far (by simp <;> omega) _).far (by simp <;> omega) _).far (by simp <;> omega) _).wide (by omega) (Nat.le_refl _)
  · exact (((((((((((((bv2.setCell (by simp <;> omega) _).setCell (by simp <;> omega) _).setCell (by simp <;> omega) _).setCell (by simp <;> omega) _).setCell (by simp <;> omega) _).setCell (by simp <;> omega) _).setCell (by simp <;> omega) _).setCell (by simp <;> omega) _).setCell (by simp <;> omega) _).setCell (by simp <;> omega) _).setCell (by simp <;> omega) _).setCell (by simp <;> omega) _).setCell (by simp <;> omega) _)
theorem Ka_to_any : ∀ m, KaToOk m := by
  intro m
  induction m with
  | zero => intro d B w _ h; have := d.size_pos; omega
  | succ m ih => exact Ka_to_step m (Ka_toL_step m ih)
theorem Ka_toL_any (A : Option Addr) (c : Nat) (l : List (Tr Ka)) (B : Nat) (w : World) (hbk : Tr.bulkL Ka.bulk l ≤ 1500000) (hin : Ka.E.LIn w B A c l) (hB : B ≤ w.heap.size) : Calls Try.prog 37 #[.slice A l.length c] w (RetKaL (Tr.erL Ka.er l) w) :=
  Ka_toL_step _ (Ka_to_any _) A c l B w hbk (Nat.le_refl _) hin hB
end Go.Proofs.Ytndckeodpoommaa
