/-
  The program's numbering of a term's binders from any first number (written by gen/korenf.py).
-/
import Derived.Test.YtpigpncbjckbcaaGreatKvRen
namespace Go.Proofs.YtpigpncbjckbcaaGreat
open Go.RowKit
set_option maxRecDepth 100000 in
set_option maxHeartbeats 4000000 in
theorem renumF_any (o : Int) (ho0 : 0 ≤ o) (ho1 : o ≤ 100000) (d : Tr Ko) (B : Nat) (w : World) (hbk : d.bulk Ko.bulk ≤ 1500000) (hin : Ko.E.In w B d) (hB : B ≤ w.heap.size) (hnd : (Tr.binders d).Nodup) (hrg : ∀ x ∈ Tr.binders d, 0 ≤ x ∧ x < 100000) :
    Calls Tryz.prog 53 #[Ko.val d, .int .i64 o] w (RetKo ((d.ren (numF o (Tr.binders d))).er Ko.er) w) := by
  have hmm := @run_makeMap Tryz.prog
  obtain ⟨L, hL⟩ : ∃ z, z = Tr.binders d := ⟨_, rfl⟩
  have hLl : L.length ≤ 1500000 := by rw [hL]; have := Tr.binders_len d; omega
  rw [← hL] at hnd hrg ⊢
  obtain ⟨W1, hW1⟩ : ∃ W1, W1 = w.alloc (.cells #[.int .i64 d.a.k, .int .i64 d.a.n, .slice d.a.sA d.a.s.length d.a.sC, .int .i64 d.a.d.k, .int .i64 d.a.d.n, .string d.a.d.t, .slice d.a.d.A d.a.d.l.length d.a.d.c, .slice d.A d.l.length d.c] 35) := ⟨_, rfl⟩
  obtain ⟨W2, hW2⟩ : ∃ W2, W2 = W1.alloc (.cells #[.int .i64 0, .int .i64 0, .slice none 0 0, .int .i64 0, .int .i64 0, .string ⟨#[]⟩, .slice none 0 0, .slice none 0 0] 35) := ⟨_, rfl⟩
  obtain ⟨W3, hW3⟩ : ∃ W3, W3 = W2.alloc (.map #[] 0) := ⟨_, rfl⟩
  obtain ⟨W4, hW4⟩ : ∃ W4, W4 = W3.alloc (.cells #[.map (some (w.heap.size + 1 + 1))] 149) := ⟨_, rfl⟩
  have z1 : W1.heap.size = w.heap.size + 1 := by rw [hW1]; simp
  have z2 : W2.heap.size = w.heap.size + 1 + 1 := by rw [hW2]; simp [z1]
  have z3 : W3.heap.size = w.heap.size + 1 + 1 + 1 := by rw [hW3]; simp [z2]
  have z4 : W4.heap.size = w.heap.size + 1 + 1 + 1 + 1 := by rw [hW4]; simp [z3]
  have B1 : Below w.heap.size w W1 := by rw [hW1]; exact (Below.refl _ _).alloc (Nat.le_refl _) _
  have B2 : Below W1.heap.size W1 W2 := by rw [hW2]; exact (Below.refl _ _).alloc (Nat.le_refl _) _
  have B3 : Below W2.heap.size W2 W3 := by rw [hW3]; exact (Below.refl _ _).alloc (Nat.le_refl _) _
  have B4 : Below W3.heap.size W3 W4 := by rw [hW4]; exact (Below.refl _ _).alloc (Nat.le_refl _) _
  have X0 : Ko.Box W1 w.heap.size d := by rw [hW1]; exact Ko.Box.new _ _ _
  have X0 := ((X0.below B2 (by omega)).below B3 (by omega)).below B4 (by omega)
  have R0 : D.Blk W2 (w.heap.size + 1) 35 #[.int .i64 0, .int .i64 0, .slice none 0 0, .int .i64 0, .int .i64 0, .string ⟨#[]⟩, .slice none 0 0, .slice none 0 0] := by rw [hW2, ← z1]; exact D.Blk.new _ _ _
  have R0 := (R0.below B3 (by omega)).below B4 (by omega)
  have M0 : IMapO W3 (w.heap.size + 1 + 1) 0 (fun _ => none) := by rw [hW3, ← z2]; exact IMapO.new _
  have M0 := M0.keep (B4.block _ (by omega))
  have C0 : W4.cell? ⟨w.heap.size + 1 + 1 + 1, 0, none⟩ = some (.map (some (w.heap.size + 1 + 1))) := by
    have h : D.Blk W4 (w.heap.size + 1 + 1 + 1) 149 #[.map (some (w.heap.size + 1 + 1))] := by rw [hW4, ← z3]; exact D.Blk.new _ _ _
    exact h.cell 0
  have b0 : Below w.heap.size w W4 := ((B1.trans (B2.mono (by omega))).trans (B3.mono (by omega))).trans (B4.mono (by omega))
  have hcon := implBnd_any d B W4 (hin.below (b0.mono hB)) (by omega) hbk
  rw [Tr.walk_binders, List.nil_append, ← hL] at hcon
  have HL := Lib.hid hL
  clear hL
  unfold Ko.val at hcon ⊢
  go_enter Tryz.func53, Tryz.ntmps53
  go_wp2_with fail
  rw [← hW1, ← hW2, ← hW3, ← hW4]
  clear hW1 hW2 hW3 hW4 B1 B2 B3 B4 z1 z2 z3
  (with_reducible refine hcon.mono ?_)
  clear hcon
  rintro e v1 ⟨A1, c1, rfl, ho1, hb1⟩
  have y1 := hb1.size
  have X1 := X0.below hb1 (by omega)
  have R1 := R0.below hb1 (by omega)
  have M1 := M0.keep (hb1.block _ (by omega))
  have C1 := (hb1.cell (p := ⟨w.heap.size + 1 + 1 + 1, 0, none⟩) (by show w.heap.size + 1 + 1 + 1 < _; omega)).trans C0
  have b1 := b0.trans (hb1.mono (by omega))
  have hcap := ho1.inn.cap
  clear hb1 X0 R0 M0 C0 b0
  have HND := Lib.hid hnd
  have HRG := Lib.hid hrg
  clear hnd hrg
  go_wp2_with fail
  go_loopw [6, 7, 12] (fun _ _ i wr => ∃ j : Nat, j ≤ L.length ∧ i = .int .i64 j ∧ Chg [w.heap.size + 1 + 1] v1 wr ∧ IMapO wr (w.heap.size + 1 + 1) j (fun u => (numU o (L.take j) (fun _ => none) u).map (Value.int .i64))) (fun _ _ i _ => L.length - (intOf i).toNat)
  case atStart => exact ⟨0, Nat.zero_le _, rfl, Chg.refl _ _, M1⟩
  case round =>
    obtain ⟨j, hj, rfl, hch, hmj⟩ := hrel
    have hs2 := hch.size
    by_cases hlt : j < L.length
    · obtain ⟨bb, oo, rfl, hblk, c0⟩ := (ho1.inn.keep (w' := wr) fun k hk => hch.block k (by have := ho1.inn.blk_lt k hk; omega) (by have := ho1.lo_ k hk; simp; omega)).at_ hlt
      have g2 : (j : Int) < (L.length : Int) := by omega
      have hr := HRG.out L[j] (List.getElem_mem hlt)
      have hwf := wf_small hr.1 (by omega)
      have cm := (World.cell?_of_block (a := ⟨w.heap.size + 1 + 1 + 1, 0, none⟩) (hch.block (w.heap.size + 1 + 1 + 1) (by omega) (by simp))).trans C1
      obtain ⟨w2, hrun, hm2, hg2⟩ := hmj.put (t := 149) Tryz.underlying149 (by unfold maxLen; omega) hwf (.int .i64 (o + (j : Int)))
      have hupd : (updO (fun u => (numU o (L.take j) (fun _ => none) u).map (Value.int .i64)) L[j] (.int .i64 (o + (j : Int)))) = (fun u => (numU o (L.take (j + 1)) (fun _ => none) u).map (Value.int .i64)) := by
        funext u
        rw [List.take_succ_eq_append_getElem hlt, numU_snoc]
        unfold updO
        rw [List.length_take, Nat.min_eq_left (by omega)]
        by_cases e : u = L[j]
        · simp only [e, if_true]; rfl
        · simp only [e, if_false]
      rw [hupd] at hm2
      have HM2 := Lib.hid hm2
      have HC2 := Lib.hid (hch.trans (chg_of_grown hg2 (F := [w.heap.size + 1 + 1]) (by simp)))
      clear hupd hm2 hg2 hmj hch hwf hr
      go_wp2_with fail
      go_roundw
      case rel => exact ⟨j + 1, by omega, by go_num, HC2.out, HM2.out⟩
      case measure => simp [intOf]; omega
    · have hj' : j = L.length := by omega
      subst hj'
      rw [List.take_length] at hmj
      have X2 : Ko.Box wr w.heap.size d := X1.keep (hch.block _ (by omega) (by simp; omega))
      have R2 : D.Blk wr (w.heap.size + 1) 35 #[.int .i64 0, .int .i64 0, .slice none 0 0, .int .i64 0, .int .i64 0, .string ⟨#[]⟩, .slice none 0 0, .slice none 0 0] := (hch.block (w.heap.size + 1) (by omega) (by simp)).trans R1
      have cm := (World.cell?_of_block (a := ⟨w.heap.size + 1 + 1 + 1, 0, none⟩) (hch.block (w.heap.size + 1 + 1 + 1) (by omega) (by simp))).trans C1
      have bw : Below w.heap.size w wr := b1.trans (hch.below (fun k hk => by simp at hk; omega) (by omega))
      have hcon := ren_any (w.heap.size + 1 + 1 + 1) (w.heap.size + 1 + 1) L.length (numU o L fun _ => none) (fun k v h => by
        rcases numU_range L o _ k v h with h | h
        · cases h
        · exact wf_small (by omega) (by omega)) _ d B wr hbk (Nat.le_refl _) (hin.below (bw.mono hB)) (by omega) ⟨by omega, cm, hmj⟩
      rw [numU_num HND.out] at hcon
      unfold Ko.val at hcon
      have X2q := X2
      obtain ⟨a0, a1, a2, a3, a4, a5, a6, a7⟩ := X2q
      clear hmj hch X1 R1 M1 C1 b1
      go_wp2_with fail
      (with_reducible refine hcon.mono ?_)
      clear hcon
      rintro e v ⟨d', rfl, he, ho, hb⟩
      have zv := hb.size
      have Rv := R2.below hb (by omega)
      have bv := bw.trans (hb.mono (by omega))
      have HE := Lib.hid he
      have P0 := ho.wide (lo' := w.heap.size + 2) (by omega) (Nat.le_refl v.heap.size)
      clear he ho hb R2 bw a0 a1 a2 a3 a4 a5 a6 a7
      have r0 : World.cell? v ⟨w.heap.size + 1, 0, none⟩ = some (.int .i64 0) := Rv.cell 0
      have g0 := Rv.frozen 0
      have r1 : World.cell? v ⟨w.heap.size + 1, 1, none⟩ = some (.int .i64 0) := Rv.cell 1
      have g1 := Rv.frozen 1
      have r2 : World.cell? v ⟨w.heap.size + 1, 2, none⟩ = some (.slice none 0 0) := Rv.cell 2
      have g2 := Rv.frozen 2
      have r3 : World.cell? v ⟨w.heap.size + 1, 3, none⟩ = some (.int .i64 0) := Rv.cell 3
      have g3 := Rv.frozen 3
      have r4 : World.cell? v ⟨w.heap.size + 1, 4, none⟩ = some (.int .i64 0) := Rv.cell 4
      have g4 := Rv.frozen 4
      have r5 : World.cell? v ⟨w.heap.size + 1, 5, none⟩ = some (.string ⟨#[]⟩) := Rv.cell 5
      have g5 := Rv.frozen 5
      have r6 : World.cell? v ⟨w.heap.size + 1, 6, none⟩ = some (.slice none 0 0) := Rv.cell 6
      have g6 := Rv.frozen 6
      have r7 : World.cell? v ⟨w.heap.size + 1, 7, none⟩ = some (.slice none 0 0) := Rv.cell 7
      have g7 := Rv.frozen 7
      have PP := Lib.hid P0
      clear P0 Rv
      simp only [Ko.val]
      go_wp2_with fail
      refine bodyPost_ret (v := .agg #[.int .i64 d'.a.k, .int .i64 d'.a.n, .slice d'.a.sA d'.a.s.length d'.a.sC, .int .i64 d'.a.d.k, .int .i64 d'.a.d.n, .string d'.a.d.t, .slice d'.a.d.A d'.a.d.l.length d'.a.d.c, .slice d'.A d'.l.length d'.c]) (by simp [results, Tryz.results53, go_sem, r0, r1, r2, r3, r4, r5, r6, r7]) rfl ⟨d', rfl, HE.out, ?_, ?_⟩
      · simp only [World.size_setCell]
        exact (((((((((PP.out.far (by simp <;> omega) _).far (by simp <;> omega) _).far (by simp <;> omega) _).far (by simp <;> omega) _).far (by simp <;> omega) _).far (by simp <;> omega) _).far (by simp <;> omega) _).far (by simp <;> omega) _).wide (by omega) (Nat.le_refl _))
      · exact ((((((((bv.setCell (by simp <;> omega) _).setCell (by simp <;> omega) _).setCell (by simp <;> omega) _).setCell (by simp <;> omega) _).setCell (by simp <;> omega) _).setCell (by simp <;> omega) _).setCell (by simp <;> omega) _).setCell (by simp <;> omega) _)
end Go.Proofs.YtpigpncbjckbcaaGreat
