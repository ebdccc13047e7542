/-
  copyCore: its closure, and a list of numbers that is copied by it (written by gen/kocopy.py).
-/
import Derived.Test.YtpigpncbjckbcaaGreatKvMap
import Derived.Test.YtpigpncbjckbcaaGreatKvRen
namespace Go.Proofs.YtpigpncbjckbcaaGreat
open Go.RowKit
def numC (k : Int) : Int := k
theorem copc_any (k : Int) (w : World) : Calls Tryz.prog 108 #[.int .i64 k] w fun e w' => e = .returned (.int .i64 (numC k)) ∧ Below w.heap.size w w' := by
  go_enter Tryz.func108, Tryz.ntmps108
  go_wp2_with fail
  go_ret
  exact ⟨rfl, Below.refl _ _⟩
set_option maxHeartbeats 800000 in
theorem mapC_any (A : Option Addr) (c : Nat) (l : List Int) (B : Nat) (w : World) (hll : l.length ≤ 2000000) (hin : IIn w B A c l) (hB : B ≤ w.heap.size) (hwf : ∀ i ∈ l, (Lit.int .i64 i).wf = true) :
    Calls Tryz.prog 176 #[.slice A l.length c, .func (.func 108) #[] #[]] w (RetI (l.map numC) w) := by
  have hcap := hin.cap
  obtain ⟨i0, hi0, hz0, hz1, hz2⟩ := info_parts infoI
  have hmk := fun W => run_make_rowI (P := Tryz.prog) 22 3 i0 _ Tryz.underlying22 hi0 hz0 .i64 .i64 l.length l.length (Nat.le_refl _) (by rw [hz2]; omega) (by omega) W
  rw [hz1] at hmk
  have HCL : Hid (∀ (z : World) (k : Int), Below w.heap.size w z → (Lit.int .i64 k).wf = true → Calls Tryz.prog 108 #[.int .i64 k] z fun e w' => e = .returned (.int .i64 (numC k)) ∧ Below z.heap.size z w') := fun z k _ _ => copc_any k z
  by_cases h0 : l.length = 0
  · have hl : l = [] := List.length_eq_zero_iff.1 h0
    subst hl
    go_enter Tryz.func176, Tryz.ntmps176
    go_wp2_with fail
    go_ret
    exact ⟨none, 0, rfl, IOwn.nil_ (by omega) (fun _ => rfl), Below.refl _ _⟩
  · have g0 : ((l.length : Int) == 0) = false := by rw [beq_eq_false_iff_ne]; omega
    clear h0
    go_enter Tryz.func176, Tryz.ntmps176
    go_wp2_with fail
    go_loopw [16] (fun i wr => ∃ j : Nat, j ≤ l.length ∧ i = .int .i64 j ∧ IRow wr w.heap.size l.length ((l.map numC).take j) ∧ Below w.heap.size w wr) (fun i _ => l.length - (intOf i).toNat)
    case atStart => exact ⟨0, Nat.zero_le _, rfl, ⟨_, D.Blk.new _ _ _, by rw [size_madeCells], by simp⟩, (Below.refl _ _).alloc (Nat.le_refl _) _⟩
    case round =>
      obtain ⟨j, hj, rfl, hrow, hb⟩ := hrel
      by_cases hlt : j < l.length
      · obtain ⟨b, o, rfl, hblk, c0⟩ := (hin.below (hb.mono hB)).at_ hlt
        have hs2 := hb.size
        have hcl := HCL.out wr l[j] hb (hwf _ (List.getElem_mem hlt))
        have HT := Lib.hid (List.take_succ_eq_append_getElem (l := l.map numC) (i := j) (by rw [List.length_map]; exact hlt))
        go_wp2_with (go_at_call 108; with_reducible refine hcl.mono ?_; rintro e w1 ⟨rfl, hb1⟩; have hs1 := hb1.size; have hrow1 := hrow.below hb1 (hrow.lt); have hb2 := hb.trans (hb1.mono hs2); obtain ⟨v0, hc0⟩ := hrow1.old hlt; have f0 := hrow1.frozen j; have hst := hrow1.step (by rw [List.length_take, List.length_map]; omega) hlt (numC l[j]))
        refine ⟨⟨j + 1, by omega, by go_num, by rw [HT.out, List.getElem_map]; exact hst, hb2.setCell (by simp) _⟩, by simp [intOf]; omega⟩
      · have hj' : j = l.length := by omega
        subst hj'
        have hrow2 : IRow wr w.heap.size l.length (l.map numC) := by rw [List.take_of_length_le (by simp)] at hrow; exact hrow
        clear hrow
        go_wp2_with fail
        go_ret
        exact ⟨some ⟨w.heap.size, 0, none⟩, l.length, by simp, hrow2.own (c := l.length) ⟨by rw [List.length_map]; exact Nat.le_refl _, by omega⟩ (Nat.le_refl _) hrow2.lt, hb⟩
end Go.Proofs.YtpigpncbjckbcaaGreat
namespace Go.Proofs.YtpigpncbjckbcaaGreat
open Go.RowKit
def CopOk (m : Nat) : Prop := ∀ (d : Tr Ko) (B : Nat) (w : World), d.bulk Ko.bulk ≤ 1500000 → d.size ≤ m → Ko.E.In w B d → B ≤ w.heap.size →
    Calls Tryz.prog 107 #[Ko.val d, .func (.func 108) #[] #[]] w (RetKo ((d.ren numC).er Ko.er) w)
def CopCOk (m : Nat) : Prop := ∀ (q : Nat) (d : Tr Ko) (B : Nat) (w : World), d.bulk Ko.bulk ≤ 1500000 → d.size ≤ m → Ko.E.In w B d → B ≤ w.heap.size → q < w.heap.size → w.cell? ⟨q, 0, none⟩ = some (.func (.func 108) #[] #[]) →
    Calls Tryz.prog 179 #[Ko.val d, .pointer (some ⟨q, 0, none⟩)] w (RetKo ((d.ren numC).er Ko.er) w)
def CopLOk (m : Nat) : Prop := ∀ (q : Nat) (A : Option Addr) (c : Nat) (l : List (Tr Ko)) (B : Nat) (w : World), Tr.bulkL Ko.bulk l ≤ 1500000 → Tr.sizeL l ≤ m → Ko.E.LIn w B A c l → B ≤ w.heap.size → q < w.heap.size → w.cell? ⟨q, 0, none⟩ = some (.func (.func 108) #[] #[]) →
    Calls Tryz.prog 178 #[.slice A l.length c, .func (.func 179) #[] #[.pointer (some ⟨q, 0, none⟩)]] w (RetKoL (Tr.erL Ko.er (Tr.renL numC l)) w)
set_option maxRecDepth 100000 in
set_option maxHeartbeats 4000000 in
theorem copC_step (m : Nat) (ih : CopOk m) : CopCOk m := by
  intro q d B w hbk hm hin hB hq hqc
  obtain ⟨W1, hW1⟩ : ∃ W1, W1 = w.alloc (.cells #[.int .i64 d.a.k, .int .i64 d.a.n, .slice d.a.sA d.a.s.length d.a.sC, .int .i64 d.a.d.k, .int .i64 d.a.d.n, .string d.a.d.t, .slice d.a.d.A d.a.d.l.length d.a.d.c, .slice d.A d.l.length d.c] 35) := ⟨_, rfl⟩
  obtain ⟨W2, hW2⟩ : ∃ W2, W2 = W1.alloc (.cells #[.int .i64 0, .int .i64 0, .slice none 0 0, .int .i64 0, .int .i64 0, .string ⟨#[]⟩, .slice none 0 0, .slice none 0 0] 35) := ⟨_, rfl⟩
  have z1 : W1.heap.size = w.heap.size + 1 := by rw [hW1]; simp
  have z2 : W2.heap.size = w.heap.size + 1 + 1 := by rw [hW2]; simp [z1]
  have B1 : Below w.heap.size w W1 := by rw [hW1]; exact (Below.refl _ _).alloc (Nat.le_refl _) _
  have B2 : Below W1.heap.size W1 W2 := by rw [hW2]; exact (Below.refl _ _).alloc (Nat.le_refl _) _
  have R0 : D.Blk W2 (w.heap.size + 1) 35 #[.int .i64 0, .int .i64 0, .slice none 0 0, .int .i64 0, .int .i64 0, .string ⟨#[]⟩, .slice none 0 0, .slice none 0 0] := by rw [hW2, ← z1]; exact D.Blk.new _ _ _
  have b0 : Below w.heap.size w W2 := B1.trans (B2.mono (by omega))
  have i0 := hin.below (b0.mono hB)
  have vq : ((w.alloc (.cells #[.int .i64 d.a.k, .int .i64 d.a.n, .slice d.a.sA d.a.s.length d.a.sC, .int .i64 d.a.d.k, .int .i64 d.a.d.n, .string d.a.d.t, .slice d.a.d.A d.a.d.l.length d.a.d.c, .slice d.A d.l.length d.c] 35)).alloc (.cells #[.int .i64 0, .int .i64 0, .slice none 0 0, .int .i64 0, .int .i64 0, .string ⟨#[]⟩, .slice none 0 0, .slice none 0 0] 35)).cell? ⟨q, 0, none⟩ = some (.func (.func 108) #[] #[]) := by
    rw [← hW1, ← hW2]; exact (b0.cell (p := ⟨q, 0, none⟩) hq).trans hqc
  have hcon := ih d B W2 hbk hm i0 (by omega)
  unfold Ko.val at hcon ⊢
  clear hqc i0
  go_enter Tryz.func179, Tryz.ntmps179
  go_wp2_with fail
  rw [← hW1, ← hW2]
  clear vq hW1 hW2 B1 B2
  (with_reducible refine hcon.mono ?_)
  clear hcon
  rintro e v ⟨d', rfl, he, ho, hb⟩
  have zv := hb.size
  have Rv := R0.below hb (by omega)
  have bv := b0.trans (hb.mono (by omega))
  have HE := Lib.hid he
  have P0 := ho.wide (lo' := w.heap.size + 2) (by omega) (Nat.le_refl v.heap.size)
  clear he ho hb R0 b0
  have r0 : World.cell? v ⟨w.heap.size + 1, 0, none⟩ = some (.int .i64 0) := Rv.cell 0
  have g0 := Rv.frozen 0
  have r1 : World.cell? v ⟨w.heap.size + 1, 1, none⟩ = some (.int .i64 0) := Rv.cell 1
  have g1 := Rv.frozen 1
  have r2 : World.cell? v ⟨w.heap.size + 1, 2, none⟩ = some (.slice none 0 0) := Rv.cell 2
  have g2 := Rv.frozen 2
  have r3 : World.cell? v ⟨w.heap.size + 1, 3, none⟩ = some (.int .i64 0) := Rv.cell 3
  have g3 := Rv.frozen 3
  have r4 : World.cell? v ⟨w.heap.size + 1, 4, none⟩ = some (.int .i64 0) := Rv.cell 4
  have g4 := Rv.frozen 4
  have r5 : World.cell? v ⟨w.heap.size + 1, 5, none⟩ = some (.string ⟨#[]⟩) := Rv.cell 5
  have g5 := Rv.frozen 5
  have r6 : World.cell? v ⟨w.heap.size + 1, 6, none⟩ = some (.slice none 0 0) := Rv.cell 6
  have g6 := Rv.frozen 6
  have r7 : World.cell? v ⟨w.heap.size + 1, 7, none⟩ = some (.slice none 0 0) := Rv.cell 7
  have g7 := Rv.frozen 7
  have PP := Lib.hid P0
  clear P0 Rv
  simp only [Ko.val]
  go_wp2_with fail
  refine bodyPost_ret (v := .agg #[.int .i64 d'.a.k, .int .i64 d'.a.n, .slice d'.a.sA d'.a.s.length d'.a.sC, .int .i64 d'.a.d.k, .int .i64 d'.a.d.n, .string d'.a.d.t, .slice d'.a.d.A d'.a.d.l.length d'.a.d.c, .slice d'.A d'.l.length d'.c]) (by simp [results, Tryz.results179, go_sem, r0, r1, r2, r3, r4, r5, r6, r7]) rfl ⟨d', rfl, HE.out, ?_, ?_⟩
  · simp only [World.size_setCell]
    exact (((((((((PP.out.far (by simp <;> omega) _).far (by simp <;> omega) _).far (by simp <;> omega) _).far (by simp <;> omega) _).far (by simp <;> omega) _).far (by simp <;> omega) _).far (by simp <;> omega) _).far (by simp <;> omega) _).wide (by omega) (Nat.le_refl _))
  · exact ((((((((bv.setCell (by simp <;> omega) _).setCell (by simp <;> omega) _).setCell (by simp <;> omega) _).setCell (by simp <;> omega) _).setCell (by simp <;> omega) _).setCell (by simp <;> omega) _).setCell (by simp <;> omega) _).setCell (by simp <;> omega) _)
set_option maxRecDepth 100000 in
set_option maxHeartbeats 4000000 in
theorem copL_step (m : Nat) (ih : CopCOk m) : CopLOk m := by
  intro q A c l B w hbk hm hin hB hq hqc
  have hcap := hin.cap
  have hll := Tr.length_le_sizeL l
  have hlb := Tr.sizeL_le_bulkL Ko.bulk l
  obtain ⟨i0, hi0, hz0, hz1, hz2⟩ := info_parts Ko_info
  have hmk := fun W => run_make_rowN (P := Tryz.prog) 33 35 i0 _ Tryz.underlying33 hi0 hz0 .i64 .i64 l.length l.length (Nat.le_refl _) (by rw [hz2]; omega) (by omega) W
  rw [hz1] at hmk
  by_cases hl0 : l = []
  · subst hl0
    simp only [List.length_nil]
    clear hqc
    go_enter Tryz.func178, Tryz.ntmps178
    go_wp2_with fail
    go_ret
    exact ⟨none, 0, [], rfl, rfl, Elem.LOwn.nil_ (Nat.zero_le _) (fun _ => rfl), Below.refl _ _⟩
  · have n0 : ((l.length : Int) == 0) = false := by
      have : 0 < l.length := List.length_pos_iff.2 hl0
      simp; omega
    clear hl0
    have HQC := Lib.hid hqc
    clear hqc
    go_enter Tryz.func178, Tryz.ntmps178
    go_wp2_with fail
    go_loopw [6, 7, 16] (fun _ _ i wr => ∃ j : Nat, j ≤ l.length ∧ i = .int .i64 j ∧ ∃ ds : List (Tr Ko), Hid (Tr.erL Ko.er ds = Tr.erL Ko.er (Tr.renL numC (l.take j))) ∧ ds.length ≤ j ∧ j ≤ ds.length ∧ Ko.E.Fill wr w.heap.size 35 l.length ds ∧ Below w.heap.size w wr) (fun _ _ i _ => l.length - (intOf i).toNat)
    case atStart => exact ⟨0, Nat.zero_le _, rfl, [], by simp [Tr.erL, Tr.renL, Hid], Nat.le_refl _, Nat.le_refl _, Elem.Fill.new w _ (by rw [size_madeCells]; show l.length * 8 = 8 * l.length; omega), (Below.refl _ _).alloc (Nat.le_refl _) _⟩
    case round =>
      obtain ⟨j, hj, rfl, ds, HE, hd1, hd2, hF, hb⟩ := hrel
      by_cases hlt : j < l.length
      · obtain ⟨b, o, rfl, hblk, c0, c1, c2, c3, c4, c5, c6, c7, hix⟩ := Ko.at_ (hin.below (hb.mono hB)) (i := j) (x := l[j]) (List.getElem?_eq_getElem hlt)
        have hs2 := hb.size
        have hsz := Tr.sizeL_mem (l := l) (List.getElem_mem hlt)
        have hbk1 := Tr.bulkL_mem (f := Ko.bulk) (l := l) (List.getElem_mem hlt)
        have hglt : w.heap.size < wr.heap.size := hF.row.lt
        obtain ⟨W2, hW2⟩ : ∃ W2, W2 = wr.alloc (.cells #[.int .i64 l[j].a.k, .int .i64 l[j].a.n, .slice l[j].a.sA l[j].a.s.length l[j].a.sC, .int .i64 l[j].a.d.k, .int .i64 l[j].a.d.n, .string l[j].a.d.t, .slice l[j].a.d.A l[j].a.d.l.length l[j].a.d.c, .slice l[j].A l[j].l.length l[j].c] 35) := ⟨_, rfl⟩
        have bA : Below wr.heap.size wr W2 := by rw [hW2]; exact (Below.refl _ _).alloc (Nat.le_refl _) _
        have z2 : W2.heap.size = wr.heap.size + 1 := by rw [hW2]; simp
        have y0 : Ko.Box W2 wr.heap.size l[j] := by rw [hW2]; exact Ko.Box.new wr l[j] _
        obtain ⟨d0, d1, d2, d3, d4, d5, d6, d7⟩ := y0
        have bq := hb.trans (bA.mono hs2)
        have hcon := ih q l[j] B W2 (by omega) (by omega) (hix.below (bA.mono (by omega))) (by omega) (by omega) ((bq.cell (p := ⟨q, 0, none⟩) hq).trans HQC.out)
        unfold Ko.val at hcon
        clear bq
        go_wp2_with fail
        rw [← hW2]
        clear hW2
        (with_reducible refine hcon.mono ?_)
        clear hcon
        rintro e w1 ⟨d, rfl, hde, hod, hb1⟩
        have hb1 : Below wr.heap.size wr w1 := bA.trans (hb1.mono (by omega))
        have hod := hod.wide (lo' := wr.heap.size) (by omega) (Nat.le_refl _)
        have hrow1 := hF.row.below hb1 hglt
        have e4 : Ko.E.n = 8 := rfl
        obtain ⟨v0, hc0⟩ := hrow1.old (i := j * 8) (by rw [e4]; omega)
        have f0 := hrow1.frozen (j * 8)
        obtain ⟨v1, hc1⟩ := hrow1.old (i := j * 8 + 1) (by rw [e4]; omega)
        have f1 := hrow1.frozen (j * 8 + 1)
        obtain ⟨v2, hc2⟩ := hrow1.old (i := j * 8 + 2) (by rw [e4]; omega)
        have f2 := hrow1.frozen (j * 8 + 2)
        obtain ⟨v3, hc3⟩ := hrow1.old (i := j * 8 + 3) (by rw [e4]; omega)
        have f3 := hrow1.frozen (j * 8 + 3)
        obtain ⟨v4, hc4⟩ := hrow1.old (i := j * 8 + 4) (by rw [e4]; omega)
        have f4 := hrow1.frozen (j * 8 + 4)
        obtain ⟨v5, hc5⟩ := hrow1.old (i := j * 8 + 5) (by rw [e4]; omega)
        have f5 := hrow1.frozen (j * 8 + 5)
        obtain ⟨v6, hc6⟩ := hrow1.old (i := j * 8 + 6) (by rw [e4]; omega)
        have f6 := hrow1.frozen (j * 8 + 6)
        obtain ⟨v7, hc7⟩ := hrow1.old (i := j * 8 + 7) (by rw [e4]; omega)
        have f7 := hrow1.frozen (j * 8 + 7)
        have hst := hF.step hb1 hod (by omega)
        have ej : Ko.E.n * ds.length = j * 8 := by rw [e4]; omega
        rw [ej] at hst
        have Hst := Lib.hid hst
        have Hde := Lib.hid hde
        clear hde hst e4 ej hrow1 d0 d1 d2 d3 d4 d5 d6 d7
        simp only [Ko.val]
        go_wp2_with fail
        refine ⟨⟨j + 1, by omega, by go_num, ds ++ [d], ?_, by simp; omega, by simp; omega, Hst.out, ?_⟩, by simp [intOf]; omega⟩
        · show _ = _
          rw [List.take_succ_eq_append_getElem hlt, Tr.renL_append, Tr.erL_append, Tr.erL_append, HE.out]
          simp [Tr.erL, Tr.renL, Hde.out]
        · exact (((((((((hb.trans (hb1.mono (by omega))).setCell (by simp) _).setCell (by simp) _).setCell (by simp) _).setCell (by simp) _).setCell (by simp) _).setCell (by simp) _).setCell (by simp) _).setCell (by simp) _)
      · have hj' : j = l.length := by omega
        have hj'' : ds.length = l.length := by omega
        subst hj'
        have hdone := hF.done hj'' (by omega)
        have HE' := HE.out
        rw [List.take_length] at HE'
        have HR := Lib.hid HE'
        have HL := Lib.hid hj''
        clear hj'' HE'
        go_wp2_with fail
        go_ret
        exact ⟨some ⟨w.heap.size, 0, none⟩, l.length, ds, ret_sl HL.out.symm, HR.out, hdone, hb⟩
set_option maxRecDepth 100000 in
set_option maxHeartbeats 8000000 in
theorem cop_step (m : Nat) (ihL : CopLOk m) : CopOk (m + 1) := by
  intro x B w hbk hm hin hB
  have hmm : Tr.sizeL x.l ≤ m := by rw [Tr.size_eq] at hm; omega
  rw [Tr.bulk_eq] at hbk
  have hbk0 : x.a.s.length + x.a.d.bulk + Tr.bulkL Ko.bulk x.l ≤ 1500000 := hbk
  clear hbk
  have hz_d : x.a.d.size ≤ 2000000 := by have := D.bulk_size x.a.d; omega
  have hwfn := (Ko.E_in hin).1.wf.1
  have hwfs := (Ko.E_in hin).1.wf.2
  obtain ⟨SS, hSS⟩ : ∃ z, z = x.a.s.map numC := ⟨_, rfl⟩
  have hwS : ∀ i ∈ SS, (Lit.int .i64 i).wf = true := by
    intro i hi
    rw [hSS, List.mem_map] at hi
    obtain ⟨k, hk, rfl⟩ := hi
    exact (hwfs k hk)
  obtain ⟨W1, hW1⟩ : ∃ W1, W1 = w.alloc (.cells #[.int .i64 x.a.k, .int .i64 x.a.n, .slice x.a.sA x.a.s.length x.a.sC, .int .i64 x.a.d.k, .int .i64 x.a.d.n, .string x.a.d.t, .slice x.a.d.A x.a.d.l.length x.a.d.c, .slice x.A x.l.length x.c] 35) := ⟨_, rfl⟩
  obtain ⟨W2, hW2⟩ : ∃ W2, W2 = W1.alloc (.cells #[.func (.func 108) #[] #[]] 148) := ⟨_, rfl⟩
  obtain ⟨W3, hW3⟩ : ∃ W3, W3 = W2.alloc (.cells #[.int .i64 0, .int .i64 0, .slice none 0 0, .int .i64 0, .int .i64 0, .string ⟨#[]⟩, .slice none 0 0, .slice none 0 0] 35) := ⟨_, rfl⟩
  have z1 : W1.heap.size = w.heap.size + 1 := by rw [hW1]; simp
  have z2 : W2.heap.size = w.heap.size + 1 + 1 := by rw [hW2]; simp [z1]
  have z3 : W3.heap.size = w.heap.size + 1 + 1 + 1 := by rw [hW3]; simp [z2]
  have B1 : Below w.heap.size w W1 := by rw [hW1]; exact (Below.refl _ _).alloc (Nat.le_refl _) _
  have B2 : Below W1.heap.size W1 W2 := by rw [hW2]; exact (Below.refl _ _).alloc (Nat.le_refl _) _
  have B3 : Below W2.heap.size W2 W3 := by rw [hW3]; exact (Below.refl _ _).alloc (Nat.le_refl _) _
  have O0 : D.Blk W1 w.heap.size 35 #[.int .i64 x.a.k, .int .i64 x.a.n, .slice x.a.sA x.a.s.length x.a.sC, .int .i64 x.a.d.k, .int .i64 x.a.d.n, .string x.a.d.t, .slice x.a.d.A x.a.d.l.length x.a.d.c, .slice x.A x.l.length x.c] := by rw [hW1]; exact D.Blk.new _ _ _
  have O0 := (O0.below B2 (by omega)).below B3 (by omega)
  have F0 : D.Blk W2 (w.heap.size + 1) 148 #[.func (.func 108) #[] #[]] := by rw [hW2, ← z1]; exact D.Blk.new _ _ _
  have F0 := F0.below B3 (by omega)
  have R0 : D.Blk W3 (w.heap.size + 1 + 1) 35 #[.int .i64 0, .int .i64 0, .slice none 0 0, .int .i64 0, .int .i64 0, .string ⟨#[]⟩, .slice none 0 0, .slice none 0 0] := by rw [hW3, ← z2]; exact D.Blk.new _ _ _
  have b0 : Below w.heap.size w W3 := (B1.trans (B2.mono (by omega))).trans (B3.mono (by omega))
  have y3 : w.heap.size + 3 ≤ W3.heap.size := by omega
  have hvar := implVar_u x W3
  unfold Ko.val
  go_enter Tryz.func107, Tryz.ntmps107
  go_wp2_with fail
  rw [← hW1, ← hW2, ← hW3]
  clear hW1 hW2 hW3 B1 B2 B3 z1 z2 z3
  (with_reducible refine hvar.mono ?_)
  clear hvar
  rintro e v0 ⟨rfl, hq0⟩
  have zv0 := hq0.size
  have O0v := O0.below hq0 (by omega)
  have F0v := F0.below hq0 (by omega)
  have R0v := R0.below hq0 (by omega)
  have bv0 := b0.trans (hq0.mono (by omega))
  clear hq0 O0 F0 R0 b0
  cases hv : x.a.isVar
  · have hv2 := Lib.hid hv
    clear hv
    have c0 : World.cell? v0 ⟨w.heap.size, 0, none⟩ = some (.int .i64 x.a.k) := O0v.cell 0
    have cf0 := O0v.frozen 0
    have c1 : World.cell? v0 ⟨w.heap.size, 1, none⟩ = some (.int .i64 x.a.n) := O0v.cell 1
    have cf1 := O0v.frozen 1
    have c2 : World.cell? v0 ⟨w.heap.size, 2, none⟩ = some (.slice x.a.sA x.a.s.length x.a.sC) := O0v.cell 2
    have cf2 := O0v.frozen 2
    have c3 : World.cell? v0 ⟨w.heap.size, 3, none⟩ = some (.int .i64 x.a.d.k) := O0v.cell 3
    have cf3 := O0v.frozen 3
    have c4 : World.cell? v0 ⟨w.heap.size, 4, none⟩ = some (.int .i64 x.a.d.n) := O0v.cell 4
    have cf4 := O0v.frozen 4
    have c5 : World.cell? v0 ⟨w.heap.size, 5, none⟩ = some (.string x.a.d.t) := O0v.cell 5
    have cf5 := O0v.frozen 5
    have c6 : World.cell? v0 ⟨w.heap.size, 6, none⟩ = some (.slice x.a.d.A x.a.d.l.length x.a.d.c) := O0v.cell 6
    have cf6 := O0v.frozen 6
    have c7 : World.cell? v0 ⟨w.heap.size, 7, none⟩ = some (.slice x.A x.l.length x.c) := O0v.cell 7
    have cf7 := O0v.frozen 7
    have q0 : World.cell? v0 ⟨w.heap.size + 1, 0, none⟩ = some (.func (.func 108) #[] #[]) := F0v.cell 0
    go_wp2_with fail
    clear c0 cf0 c1 cf1 c2 cf2 c3 cf3 c4 cf4 c5 cf5 c6 cf6 c7 cf7 q0
    obtain ⟨U1, hU1⟩ : ∃ U, U = v0 := ⟨_, rfl⟩
    rw [← hU1]
    have O1 := O0v
    rw [← hU1] at O1
    have F1 := F0v
    rw [← hU1] at F1
    have R1 := R0v
    rw [← hU1] at R1
    have b1 := bv0
    rw [← hU1] at b1
    have yl1 : v0.heap.size ≤ U1.heap.size := by rw [hU1]; exact Nat.le_refl _
    have i1 := hin.below (b1.mono hB)
    clear hU1 O0v F0v R0v bv0
    have HN : Hid (x.a.n = if x.a.isVar = true then numC x.a.n else x.a.n) := by show _ = _; rw [hv2.out]; rfl
    have hwN : (Lit.int .i64 (x.a.n)).wf = true := hwfn
    have hcon := mapC_any x.a.sA x.a.sC x.a.s B U1 (by omega) (Ko.E_in i1).1.s (by omega) hwfs
    rw [← hSS] at hcon
    have HSS := Lib.hid hSS
    clear hSS
    (with_reducible refine hcon.mono ?_)
    clear hcon
    rintro e v2 ⟨D0A, D0C, rfl, hod0, hq2⟩
    have zv2 := hq2.size
    have O1v := O1.below hq2 (by omega)
    have F1v := F1.below hq2 (by omega)
    have R1v := R1.below hq2 (by omega)
    have bv2 := b1.trans (hq2.mono (by omega))
    have P0 := hod0.wide (lo' := w.heap.size + 3) (by omega) (Nat.le_refl v2.heap.size)
    clear hod0 hq2 O1 F1 R1 b1 i1
    have c0 : World.cell? v2 ⟨w.heap.size, 0, none⟩ = some (.int .i64 x.a.k) := O1v.cell 0
    have cf0 := O1v.frozen 0
    have c1 : World.cell? v2 ⟨w.heap.size, 1, none⟩ = some (.int .i64 x.a.n) := O1v.cell 1
    have cf1 := O1v.frozen 1
    have c2 : World.cell? v2 ⟨w.heap.size, 2, none⟩ = some (.slice x.a.sA x.a.s.length x.a.sC) := O1v.cell 2
    have cf2 := O1v.frozen 2
    have c3 : World.cell? v2 ⟨w.heap.size, 3, none⟩ = some (.int .i64 x.a.d.k) := O1v.cell 3
    have cf3 := O1v.frozen 3
    have c4 : World.cell? v2 ⟨w.heap.size, 4, none⟩ = some (.int .i64 x.a.d.n) := O1v.cell 4
    have cf4 := O1v.frozen 4
    have c5 : World.cell? v2 ⟨w.heap.size, 5, none⟩ = some (.string x.a.d.t) := O1v.cell 5
    have cf5 := O1v.frozen 5
    have c6 : World.cell? v2 ⟨w.heap.size, 6, none⟩ = some (.slice x.a.d.A x.a.d.l.length x.a.d.c) := O1v.cell 6
    have cf6 := O1v.frozen 6
    have c7 : World.cell? v2 ⟨w.heap.size, 7, none⟩ = some (.slice x.A x.l.length x.c) := O1v.cell 7
    have cf7 := O1v.frozen 7
    have q0 : World.cell? v2 ⟨w.heap.size + 1, 0, none⟩ = some (.func (.func 108) #[] #[]) := F1v.cell 0
    go_wp2_with fail
    obtain ⟨U2, hU2⟩ : ∃ U, U = (v2.setCell ⟨w.heap.size, 2, none⟩ (.slice D0A SS.length D0C)) := ⟨_, rfl⟩
    rw [← hU2]
    have O2 : D.Blk U2 w.heap.size 35 #[.int .i64 x.a.k, .int .i64 x.a.n, .slice D0A SS.length D0C, .int .i64 x.a.d.k, .int .i64 x.a.d.n, .string x.a.d.t, .slice x.a.d.A x.a.d.l.length x.a.d.c, .slice x.A x.l.length x.c] := by rw [hU2]; have := (O1v.set_ 2 (.slice D0A SS.length D0C)); simpa using this
    have F2 : D.Blk U2 (w.heap.size + 1) 148 #[.func (.func 108) #[] #[]] := by rw [hU2]; exact (Ko_far F1v (by simp) _)
    have R2 : D.Blk U2 (w.heap.size + 1 + 1) 35 #[.int .i64 0, .int .i64 0, .slice none 0 0, .int .i64 0, .int .i64 0, .string ⟨#[]⟩, .slice none 0 0, .slice none 0 0] := by rw [hU2]; exact (Ko_far R1v (by simp; omega) _)
    have b2 : Below w.heap.size w U2 := by rw [hU2]; exact (bv2.setCell (by simp) _)
    have y2 : U2.heap.size = v2.heap.size := by rw [hU2]; simp
    have P0 : IOwn (w.heap.size + 3) v2.heap.size U2 D0A D0C SS := by rw [hU2]; exact (P0.far (by simp <;> omega) _)
    have yl2 : v2.heap.size ≤ U2.heap.size := by omega
    have yu2 : U2.heap.size ≤ v2.heap.size := by omega
    have i2 := hin.below (b2.mono hB)
    clear hU2 O1v F1v R1v bv2 y2
    clear c0 cf0 c1 cf1 c2 cf2 c3 cf3 c4 cf4 c5 cf5 c6 cf6 c7 cf7 q0
    refine (cp_any 2000000 x.a.d B _ hz_d (Nat.le_refl _) (Ko.E_in i2).1.d (by omega)).mono ?_
    rintro e v3 ⟨D1, rfl, he1, hod1, hq3⟩
    have zv3 := hq3.size
    have HE1 := Lib.hid he1
    clear he1
    have P0 := P0.below (hq3.mono (by omega))
    have O2v := O2.below hq3 (by omega)
    have F2v := F2.below hq3 (by omega)
    have R2v := R2.below hq3 (by omega)
    have bv3 := b2.trans (hq3.mono (by omega))
    have P1 := hod1.wide (lo' := v2.heap.size) (by omega) (Nat.le_refl v3.heap.size)
    clear hod1 hq3 O2 F2 R2 b2 i2
    have c0 : World.cell? v3 ⟨w.heap.size, 0, none⟩ = some (.int .i64 x.a.k) := O2v.cell 0
    have cf0 := O2v.frozen 0
    have c1 : World.cell? v3 ⟨w.heap.size, 1, none⟩ = some (.int .i64 x.a.n) := O2v.cell 1
    have cf1 := O2v.frozen 1
    have c2 : World.cell? v3 ⟨w.heap.size, 2, none⟩ = some (.slice D0A SS.length D0C) := O2v.cell 2
    have cf2 := O2v.frozen 2
    have c3 : World.cell? v3 ⟨w.heap.size, 3, none⟩ = some (.int .i64 x.a.d.k) := O2v.cell 3
    have cf3 := O2v.frozen 3
    have c4 : World.cell? v3 ⟨w.heap.size, 4, none⟩ = some (.int .i64 x.a.d.n) := O2v.cell 4
    have cf4 := O2v.frozen 4
    have c5 : World.cell? v3 ⟨w.heap.size, 5, none⟩ = some (.string x.a.d.t) := O2v.cell 5
    have cf5 := O2v.frozen 5
    have c6 : World.cell? v3 ⟨w.heap.size, 6, none⟩ = some (.slice x.a.d.A x.a.d.l.length x.a.d.c) := O2v.cell 6
    have cf6 := O2v.frozen 6
    have c7 : World.cell? v3 ⟨w.heap.size, 7, none⟩ = some (.slice x.A x.l.length x.c) := O2v.cell 7
    have cf7 := O2v.frozen 7
    have q0 : World.cell? v3 ⟨w.heap.size + 1, 0, none⟩ = some (.func (.func 108) #[] #[]) := F2v.cell 0
    simp only [D.val]
    go_wp2_with fail
    obtain ⟨U3, hU3⟩ : ∃ U, U = ((((v3.setCell ⟨w.heap.size, 3, none⟩ (.int .i64 D1.k)).setCell ⟨w.heap.size, 4, none⟩ (.int .i64 D1.n)).setCell ⟨w.heap.size, 5, none⟩ (.string D1.t)).setCell ⟨w.heap.size, 6, none⟩ (.slice D1.A D1.l.length D1.c)) := ⟨_, rfl⟩
    rw [← hU3]
    have O3 : D.Blk U3 w.heap.size 35 #[.int .i64 x.a.k, .int .i64 x.a.n, .slice D0A SS.length D0C, .int .i64 D1.k, .int .i64 D1.n, .string D1.t, .slice D1.A D1.l.length D1.c, .slice x.A x.l.length x.c] := by rw [hU3]; have := ((((O2v.set_ 3 (.int .i64 D1.k)).set_ 4 (.int .i64 D1.n)).set_ 5 (.string D1.t)).set_ 6 (.slice D1.A D1.l.length D1.c)); simpa using this
    have F3 : D.Blk U3 (w.heap.size + 1) 148 #[.func (.func 108) #[] #[]] := by rw [hU3]; exact (Ko_far (Ko_far (Ko_far (Ko_far F2v (by simp) _) (by simp) _) (by simp) _) (by simp) _)
    have R3 : D.Blk U3 (w.heap.size + 1 + 1) 35 #[.int .i64 0, .int .i64 0, .slice none 0 0, .int .i64 0, .int .i64 0, .string ⟨#[]⟩, .slice none 0 0, .slice none 0 0] := by rw [hU3]; exact (Ko_far (Ko_far (Ko_far (Ko_far R2v (by simp; omega) _) (by simp; omega) _) (by simp; omega) _) (by simp; omega) _)
    have b3 : Below w.heap.size w U3 := by rw [hU3]; exact ((((bv3.setCell (by simp) _).setCell (by simp) _).setCell (by simp) _).setCell (by simp) _)
    have y3 : U3.heap.size = v3.heap.size := by rw [hU3]; simp
    have P0 : IOwn (w.heap.size + 3) v2.heap.size U3 D0A D0C SS := by rw [hU3]; exact ((((P0.far (by simp <;> omega) _).far (by simp <;> omega) _).far (by simp <;> omega) _).far (by simp <;> omega) _)
    have P1 : D1.Own (v2.heap.size) v3.heap.size U3 := by rw [hU3]; exact ((((P1.far (by simp <;> omega) _).far (by simp <;> omega) _).far (by simp <;> omega) _).far (by simp <;> omega) _)
    have yl3 : v3.heap.size ≤ U3.heap.size := by omega
    have yu3 : U3.heap.size ≤ v3.heap.size := by omega
    have i3 := hin.below (b3.mono hB)
    clear hU3 O2v F2v R2v bv3 y3
    clear c0 cf0 c1 cf1 c2 cf2 c3 cf3 c4 cf4 c5 cf5 c6 cf6 c7 cf7 q0
    refine (ihL (w.heap.size + 1) x.A x.c x.l B _ (by omega) hmm (Ko.E_in i3).2 (by omega) (by omega) (F3.cell 0)).mono ?_
    rintro e v4 ⟨KA, KC, KL, rfl, heK, hoK, hq4⟩
    have zv4 := hq4.size
    have HEK := Lib.hid heK
    clear heK
    have P0 := P0.below (hq4.mono (by omega))
    have P1 := P1.below (hq4.mono (by omega))
    have O3v := O3.below hq4 (by omega)
    have R3v := R3.below hq4 (by omega)
    have bv4 := b3.trans (hq4.mono (by omega))
    have PK := hoK.wide (lo' := v3.heap.size) (by omega) (Nat.le_refl v4.heap.size)
    clear hoK hq4 O3 F3 R3 b3 i3
    have c0 : World.cell? v4 ⟨w.heap.size, 0, none⟩ = some (.int .i64 x.a.k) := O3v.cell 0
    have cf0 := O3v.frozen 0
    have c1 : World.cell? v4 ⟨w.heap.size, 1, none⟩ = some (.int .i64 x.a.n) := O3v.cell 1
    have cf1 := O3v.frozen 1
    have c2 : World.cell? v4 ⟨w.heap.size, 2, none⟩ = some (.slice D0A SS.length D0C) := O3v.cell 2
    have cf2 := O3v.frozen 2
    have c3 : World.cell? v4 ⟨w.heap.size, 3, none⟩ = some (.int .i64 D1.k) := O3v.cell 3
    have cf3 := O3v.frozen 3
    have c4 : World.cell? v4 ⟨w.heap.size, 4, none⟩ = some (.int .i64 D1.n) := O3v.cell 4
    have cf4 := O3v.frozen 4
    have c5 : World.cell? v4 ⟨w.heap.size, 5, none⟩ = some (.string D1.t) := O3v.cell 5
    have cf5 := O3v.frozen 5
    have c6 : World.cell? v4 ⟨w.heap.size, 6, none⟩ = some (.slice D1.A D1.l.length D1.c) := O3v.cell 6
    have cf6 := O3v.frozen 6
    have c7 : World.cell? v4 ⟨w.heap.size, 7, none⟩ = some (.slice x.A x.l.length x.c) := O3v.cell 7
    have cf7 := O3v.frozen 7
    have r0 : World.cell? v4 ⟨w.heap.size + 1 + 1, 0, none⟩ = some (.int .i64 0) := R3v.cell 0
    have rf0 := R3v.frozen 0
    have r1 : World.cell? v4 ⟨w.heap.size + 1 + 1, 1, none⟩ = some (.int .i64 0) := R3v.cell 1
    have rf1 := R3v.frozen 1
    have r2 : World.cell? v4 ⟨w.heap.size + 1 + 1, 2, none⟩ = some (.slice none 0 0) := R3v.cell 2
    have rf2 := R3v.frozen 2
    have r3 : World.cell? v4 ⟨w.heap.size + 1 + 1, 3, none⟩ = some (.int .i64 0) := R3v.cell 3
    have rf3 := R3v.frozen 3
    have r4 : World.cell? v4 ⟨w.heap.size + 1 + 1, 4, none⟩ = some (.int .i64 0) := R3v.cell 4
    have rf4 := R3v.frozen 4
    have r5 : World.cell? v4 ⟨w.heap.size + 1 + 1, 5, none⟩ = some (.string ⟨#[]⟩) := R3v.cell 5
    have rf5 := R3v.frozen 5
    have r6 : World.cell? v4 ⟨w.heap.size + 1 + 1, 6, none⟩ = some (.slice none 0 0) := R3v.cell 6
    have rf6 := R3v.frozen 6
    have r7 : World.cell? v4 ⟨w.heap.size + 1 + 1, 7, none⟩ = some (.slice none 0 0) := R3v.cell 7
    have rf7 := R3v.frozen 7
    have PP : Hid (Ko.E.Own (w.heap.size + 3) v4.heap.size v4 (Tr.mk (⟨x.a.k, x.a.n, D0A, D0C, SS, D1⟩ : Ko) KA KC KL)) := Tr.own_of (Ko.own_head (x := ⟨x.a.k, x.a.n, D0A, D0C, SS, D1⟩) P0 P1 (by omega) (by omega) ⟨hwN, hwS⟩) PK (by omega) (by omega)
    clear P0 P1 PK O3v R3v
    go_wp2_with fail
    refine bodyPost_ret (v := .agg #[.int .i64 x.a.k, .int .i64 x.a.n, .slice D0A SS.length D0C, .int .i64 D1.k, .int .i64 D1.n, .string D1.t, .slice D1.A D1.l.length D1.c, .slice KA KL.length KC]) (by simp [results, Tryz.results107, go_sem, r0, r1, r2, r3, r4, r5, r6, r7]) rfl ⟨(Tr.mk (⟨x.a.k, x.a.n, D0A, D0C, SS, D1⟩ : Ko) KA KC KL), rfl, ?_, ?_, ?_⟩
    · show Tr.mk _ _ _ _ = _
      rw [HEK.out]
      simp only [Ko.er, HE1.out]
      rw [HN.out, HSS.out]
      cases x
      rfl
    · simp only [World.size_setCell]
      exact ((((((((((PP.out.far (by simp <;> omega) _).far (by simp <;> omega) _).far (by simp <;> omega) _).far (by simp <;> omega) _).far (by simp <;> omega) _).far (by simp <;> omega) _).far (by simp <;> omega) _).far (by simp <;> omega) _).far (by simp <;> omega) _).wide (by omega) (Nat.le_refl _))
    · exact (((((((((bv4.setCell (by simp <;> omega) _).setCell (by simp <;> omega) _).setCell (by simp <;> omega) _).setCell (by simp <;> omega) _).setCell (by simp <;> omega) _).setCell (by simp <;> omega) _).setCell (by simp <;> omega) _).setCell (by simp <;> omega) _).setCell (by simp <;> omega) _)
  · have hv2 := Lib.hid hv
    clear hv
    have c0 : World.cell? v0 ⟨w.heap.size, 0, none⟩ = some (.int .i64 x.a.k) := O0v.cell 0
    have cf0 := O0v.frozen 0
    have c1 : World.cell? v0 ⟨w.heap.size, 1, none⟩ = some (.int .i64 x.a.n) := O0v.cell 1
    have cf1 := O0v.frozen 1
    have c2 : World.cell? v0 ⟨w.heap.size, 2, none⟩ = some (.slice x.a.sA x.a.s.length x.a.sC) := O0v.cell 2
    have cf2 := O0v.frozen 2
    have c3 : World.cell? v0 ⟨w.heap.size, 3, none⟩ = some (.int .i64 x.a.d.k) := O0v.cell 3
    have cf3 := O0v.frozen 3
    have c4 : World.cell? v0 ⟨w.heap.size, 4, none⟩ = some (.int .i64 x.a.d.n) := O0v.cell 4
    have cf4 := O0v.frozen 4
    have c5 : World.cell? v0 ⟨w.heap.size, 5, none⟩ = some (.string x.a.d.t) := O0v.cell 5
    have cf5 := O0v.frozen 5
    have c6 : World.cell? v0 ⟨w.heap.size, 6, none⟩ = some (.slice x.a.d.A x.a.d.l.length x.a.d.c) := O0v.cell 6
    have cf6 := O0v.frozen 6
    have c7 : World.cell? v0 ⟨w.heap.size, 7, none⟩ = some (.slice x.A x.l.length x.c) := O0v.cell 7
    have cf7 := O0v.frozen 7
    have q0 : World.cell? v0 ⟨w.heap.size + 1, 0, none⟩ = some (.func (.func 108) #[] #[]) := F0v.cell 0
    have hcon := copc_any x.a.n v0
    go_wp2_with fail
    (with_reducible refine hcon.mono ?_)
    clear hcon
    clear c0 cf0 c1 cf1 c2 cf2 c3 cf3 c4 cf4 c5 cf5 c6 cf6 c7 cf7 q0
    rintro e v1 ⟨rfl, hq1⟩
    have zv1 := hq1.size
    have O0v := O0v.below hq1 (by omega)
    have F0v := F0v.below hq1 (by omega)
    have R0v := R0v.below hq1 (by omega)
    have bv1 := bv0.trans (hq1.mono (by omega))
    clear hq1 bv0
    have c0 : World.cell? v1 ⟨w.heap.size, 0, none⟩ = some (.int .i64 x.a.k) := O0v.cell 0
    have cf0 := O0v.frozen 0
    have c1 : World.cell? v1 ⟨w.heap.size, 1, none⟩ = some (.int .i64 x.a.n) := O0v.cell 1
    have cf1 := O0v.frozen 1
    have c2 : World.cell? v1 ⟨w.heap.size, 2, none⟩ = some (.slice x.a.sA x.a.s.length x.a.sC) := O0v.cell 2
    have cf2 := O0v.frozen 2
    have c3 : World.cell? v1 ⟨w.heap.size, 3, none⟩ = some (.int .i64 x.a.d.k) := O0v.cell 3
    have cf3 := O0v.frozen 3
    have c4 : World.cell? v1 ⟨w.heap.size, 4, none⟩ = some (.int .i64 x.a.d.n) := O0v.cell 4
    have cf4 := O0v.frozen 4
    have c5 : World.cell? v1 ⟨w.heap.size, 5, none⟩ = some (.string x.a.d.t) := O0v.cell 5
    have cf5 := O0v.frozen 5
    have c6 : World.cell? v1 ⟨w.heap.size, 6, none⟩ = some (.slice x.a.d.A x.a.d.l.length x.a.d.c) := O0v.cell 6
    have cf6 := O0v.frozen 6
    have c7 : World.cell? v1 ⟨w.heap.size, 7, none⟩ = some (.slice x.A x.l.length x.c) := O0v.cell 7
    have cf7 := O0v.frozen 7
    have q0 : World.cell? v1 ⟨w.heap.size + 1, 0, none⟩ = some (.func (.func 108) #[] #[]) := F0v.cell 0
    go_wp2_with fail
    obtain ⟨U1, hU1⟩ : ∃ U, U = (v1.setCell ⟨w.heap.size, 1, none⟩ (.int .i64 (numC x.a.n))) := ⟨_, rfl⟩
    rw [← hU1]
    have O1 : D.Blk U1 w.heap.size 35 #[.int .i64 x.a.k, .int .i64 (numC x.a.n), .slice x.a.sA x.a.s.length x.a.sC, .int .i64 x.a.d.k, .int .i64 x.a.d.n, .string x.a.d.t, .slice x.a.d.A x.a.d.l.length x.a.d.c, .slice x.A x.l.length x.c] := by rw [hU1]; have := (O0v.set_ 1 (.int .i64 (numC x.a.n))); simpa using this
    have F1 : D.Blk U1 (w.heap.size + 1) 148 #[.func (.func 108) #[] #[]] := by rw [hU1]; exact (Ko_far F0v (by simp) _)
    have R1 : D.Blk U1 (w.heap.size + 1 + 1) 35 #[.int .i64 0, .int .i64 0, .slice none 0 0, .int .i64 0, .int .i64 0, .string ⟨#[]⟩, .slice none 0 0, .slice none 0 0] := by rw [hU1]; exact (Ko_far R0v (by simp; omega) _)
    have b1 : Below w.heap.size w U1 := by rw [hU1]; exact (bv1.setCell (by simp) _)
    have y1 : U1.heap.size = v1.heap.size := by rw [hU1]; simp
    have yl1 : v1.heap.size ≤ U1.heap.size := by omega
    have yu1 : U1.heap.size ≤ v1.heap.size := by omega
    have i1 := hin.below (b1.mono hB)
    clear hU1 O0v F0v R0v bv1 y1
    clear c0 cf0 c1 cf1 c2 cf2 c3 cf3 c4 cf4 c5 cf5 c6 cf6 c7 cf7 q0
    have HN : Hid (numC x.a.n = if x.a.isVar = true then numC x.a.n else x.a.n) := by show _ = _; rw [hv2.out]; rfl
    have hwN : (Lit.int .i64 (numC x.a.n)).wf = true := hwfn
    have hcon := mapC_any x.a.sA x.a.sC x.a.s B U1 (by omega) (Ko.E_in i1).1.s (by omega) hwfs
    rw [← hSS] at hcon
    have HSS := Lib.hid hSS
    clear hSS
    (with_reducible refine hcon.mono ?_)
    clear hcon
    rintro e v2 ⟨D0A, D0C, rfl, hod0, hq2⟩
    have zv2 := hq2.size
    have O1v := O1.below hq2 (by omega)
    have F1v := F1.below hq2 (by omega)
    have R1v := R1.below hq2 (by omega)
    have bv2 := b1.trans (hq2.mono (by omega))
    have P0 := hod0.wide (lo' := w.heap.size + 3) (by omega) (Nat.le_refl v2.heap.size)
    clear hod0 hq2 O1 F1 R1 b1 i1
    have c0 : World.cell? v2 ⟨w.heap.size, 0, none⟩ = some (.int .i64 x.a.k) := O1v.cell 0
    have cf0 := O1v.frozen 0
    have c1 : World.cell? v2 ⟨w.heap.size, 1, none⟩ = some (.int .i64 (numC x.a.n)) := O1v.cell 1
    have cf1 := O1v.frozen 1
    have c2 : World.cell? v2 ⟨w.heap.size, 2, none⟩ = some (.slice x.a.sA x.a.s.length x.a.sC) := O1v.cell 2
    have cf2 := O1v.frozen 2
    have c3 : World.cell? v2 ⟨w.heap.size, 3, none⟩ = some (.int .i64 x.a.d.k) := O1v.cell 3
    have cf3 := O1v.frozen 3
    have c4 : World.cell? v2 ⟨w.heap.size, 4, none⟩ = some (.int .i64 x.a.d.n) := O1v.cell 4
    have cf4 := O1v.frozen 4
    have c5 : World.cell? v2 ⟨w.heap.size, 5, none⟩ = some (.string x.a.d.t) := O1v.cell 5
    have cf5 := O1v.frozen 5
    have c6 : World.cell? v2 ⟨w.heap.size, 6, none⟩ = some (.slice x.a.d.A x.a.d.l.length x.a.d.c) := O1v.cell 6
    have cf6 := O1v.frozen 6
    have c7 : World.cell? v2 ⟨w.heap.size, 7, none⟩ = some (.slice x.A x.l.length x.c) := O1v.cell 7
    have cf7 := O1v.frozen 7
    have q0 : World.cell? v2 ⟨w.heap.size + 1, 0, none⟩ = some (.func (.func 108) #[] #[]) := F1v.cell 0
    go_wp2_with fail
    obtain ⟨U2, hU2⟩ : ∃ U, U = (v2.setCell ⟨w.heap.size, 2, none⟩ (.slice D0A SS.length D0C)) := ⟨_, rfl⟩
    rw [← hU2]
    have O2 : D.Blk U2 w.heap.size 35 #[.int .i64 x.a.k, .int .i64 (numC x.a.n), .slice D0A SS.length D0C, .int .i64 x.a.d.k, .int .i64 x.a.d.n, .string x.a.d.t, .slice x.a.d.A x.a.d.l.length x.a.d.c, .slice x.A x.l.length x.c] := by rw [hU2]; have := (O1v.set_ 2 (.slice D0A SS.length D0C)); simpa using this
    have F2 : D.Blk U2 (w.heap.size + 1) 148 #[.func (.func 108) #[] #[]] := by rw [hU2]; exact (Ko_far F1v (by simp) _)
    have R2 : D.Blk U2 (w.heap.size + 1 + 1) 35 #[.int .i64 0, .int .i64 0, .slice none 0 0, .int .i64 0, .int .i64 0, .string ⟨#[]⟩, .slice none 0 0, .slice none 0 0] := by rw [hU2]; exact (Ko_far R1v (by simp; omega) _)
    have b2 : Below w.heap.size w U2 := by rw [hU2]; exact (bv2.setCell (by simp) _)
    have y2 : U2.heap.size = v2.heap.size := by rw [hU2]; simp
    have P0 : IOwn (w.heap.size + 3) v2.heap.size U2 D0A D0C SS := by rw [hU2]; exact (P0.far (by simp <;> omega) _)
    have yl2 : v2.heap.size ≤ U2.heap.size := by omega
    have yu2 : U2.heap.size ≤ v2.heap.size := by omega
    have i2 := hin.below (b2.mono hB)
    clear hU2 O1v F1v R1v bv2 y2
    clear c0 cf0 c1 cf1 c2 cf2 c3 cf3 c4 cf4 c5 cf5 c6 cf6 c7 cf7 q0
    refine (cp_any 2000000 x.a.d B _ hz_d (Nat.le_refl _) (Ko.E_in i2).1.d (by omega)).mono ?_
    rintro e v3 ⟨D1, rfl, he1, hod1, hq3⟩
    have zv3 := hq3.size
    have HE1 := Lib.hid he1
    clear he1
    have P0 := P0.below (hq3.mono (by omega))
    have O2v := O2.below hq3 (by omega)
    have F2v := F2.below hq3 (by omega)
    have R2v := R2.below hq3 (by omega)
    have bv3 := b2.trans (hq3.mono (by omega))
    have P1 := hod1.wide (lo' := v2.heap.size) (by omega) (Nat.le_refl v3.heap.size)
    clear hod1 hq3 O2 F2 R2 b2 i2
    have c0 : World.cell? v3 ⟨w.heap.size, 0, none⟩ = some (.int .i64 x.a.k) := O2v.cell 0
    have cf0 := O2v.frozen 0
    have c1 : World.cell? v3 ⟨w.heap.size, 1, none⟩ = some (.int .i64 (numC x.a.n)) := O2v.cell 1
    have cf1 := O2v.frozen 1
    have c2 : World.cell? v3 ⟨w.heap.size, 2, none⟩ = some (.slice D0A SS.length D0C) := O2v.cell 2
    have cf2 := O2v.frozen 2
    have c3 : World.cell? v3 ⟨w.heap.size, 3, none⟩ = some (.int .i64 x.a.d.k) := O2v.cell 3
    have cf3 := O2v.frozen 3
    have c4 : World.cell? v3 ⟨w.heap.size, 4, none⟩ = some (.int .i64 x.a.d.n) := O2v.cell 4
    have cf4 := O2v.frozen 4
    have c5 : World.cell? v3 ⟨w.heap.size, 5, none⟩ = some (.string x.a.d.t) := O2v.cell 5
    have cf5 := O2v.frozen 5
    have c6 : World.cell? v3 ⟨w.heap.size, 6, none⟩ = some (.slice x.a.d.A x.a.d.l.length x.a.d.c) := O2v.cell 6
    have cf6 := O2v.frozen 6
    have c7 : World.cell? v3 ⟨w.heap.size, 7, none⟩ = some (.slice x.A x.l.length x.c) := O2v.cell 7
    have cf7 := O2v.frozen 7
    have q0 : World.cell? v3 ⟨w.heap.size + 1, 0, none⟩ = some (.func (.func 108) #[] #[]) := F2v.cell 0
    simp only [D.val]
    go_wp2_with fail
    obtain ⟨U3, hU3⟩ : ∃ U, U = ((((v3.setCell ⟨w.heap.size, 3, none⟩ (.int .i64 D1.k)).setCell ⟨w.heap.size, 4, none⟩ (.int .i64 D1.n)).setCell ⟨w.heap.size, 5, none⟩ (.string D1.t)).setCell ⟨w.heap.size, 6, none⟩ (.slice D1.A D1.l.length D1.c)) := ⟨_, rfl⟩
    rw [← hU3]
    have O3 : D.Blk U3 w.heap.size 35 #[.int .i64 x.a.k, .int .i64 (numC x.a.n), .slice D0A SS.length D0C, .int .i64 D1.k, .int .i64 D1.n, .string D1.t, .slice D1.A D1.l.length D1.c, .slice x.A x.l.length x.c] := by rw [hU3]; have := ((((O2v.set_ 3 (.int .i64 D1.k)).set_ 4 (.int .i64 D1.n)).set_ 5 (.string D1.t)).set_ 6 (.slice D1.A D1.l.length D1.c)); simpa using this
    have F3 : D.Blk U3 (w.heap.size + 1) 148 #[.func (.func 108) #[] #[]] := by rw [hU3]; exact (Ko_far (Ko_far (Ko_far (Ko_far F2v (by simp) _) (by simp) _) (by simp) _) (by simp) _)
    have R3 : D.Blk U3 (w.heap.size + 1 + 1) 35 #[.int .i64 0, .int .i64 0, .slice none 0 0, .int .i64 0, .int .i64 0, .string ⟨#[]⟩, .slice none 0 0, .slice none 0 0] := by rw [hU3]; exact (Ko_far (Ko_far (Ko_far (Ko_far R2v (by simp; omega) _) (by simp; omega) _) (by simp; omega) _) (by simp; omega) _)
    have b3 : Below w.heap.size w U3 := by rw [hU3]; exact ((((bv3.setCell (by simp) _).setCell (by simp) _).setCell (by simp) _).setCell (by simp) _)
    have y3 : U3.heap.size = v3.heap.size := by rw [hU3]; simp
    have P0 : IOwn (w.heap.size + 3) v2.heap.size U3 D0A D0C SS := by rw [hU3]; exact ((((P0.far (by simp <;> omega) _).far (by simp <;> omega) _).far (by simp <;> omega) _).far (by simp <;> omega) _)
    have P1 : D1.Own (v2.heap.size) v3.heap.size U3 := by rw [hU3]; exact ((((P1.far (by simp <;> omega) _).far (by simp <;> omega) _).far (by simp <;> omega) _).far (by simp <;> omega) _)
    have yl3 : v3.heap.size ≤ U3.heap.size := by omega
    have yu3 : U3.heap.size ≤ v3.heap.size := by omega
    have i3 := hin.below (b3.mono hB)
    clear hU3 O2v F2v R2v bv3 y3
    clear c0 cf0 c1 cf1 c2 cf2 c3 cf3 c4 cf4 c5 cf5 c6 cf6 c7 cf7 q0
    refine (ihL (w.heap.size + 1) x.A x.c x.l B _ (by omega) hmm (Ko.E_in i3).2 (by omega) (by omega) (F3.cell 0)).mono ?_
    rintro e v4 ⟨KA, KC, KL, rfl, heK, hoK, hq4⟩
    have zv4 := hq4.size
    have HEK := Lib.hid heK
    clear heK
    have P0 := P0.below (hq4.mono (by omega))
    have P1 := P1.below (hq4.mono (by omega))
    have O3v := O3.below hq4 (by omega)
    have R3v := R3.below hq4 (by omega)
    have bv4 := b3.trans (hq4.mono (by omega))
    have PK := hoK.wide (lo' := v3.heap.size) (by omega) (Nat.le_refl v4.heap.size)
    clear hoK hq4 O3 F3 R3 b3 i3
    have c0 : World.cell? v4 ⟨w.heap.size, 0, none⟩ = some (.int .i64 x.a.k) := O3v.cell 0
    have cf0 := O3v.frozen 0
    have c1 : World.cell? v4 ⟨w.heap.size, 1, none⟩ = some (.int .i64 (numC x.a.n)) := O3v.cell 1
    have cf1 := O3v.frozen 1
    have c2 : World.cell? v4 ⟨w.heap.size, 2, none⟩ = some (.slice D0A SS.length D0C) := O3v.cell 2
    have cf2 := O3v.frozen 2
    have c3 : World.cell? v4 ⟨w.heap.size, 3, none⟩ = some (.int .i64 D1.k) := O3v.cell 3
    have cf3 := O3v.frozen 3
    have c4 : World.cell? v4 ⟨w.heap.size, 4, none⟩ = some (.int .i64 D1.n) := O3v.cell 4
    have cf4 := O3v.frozen 4
    have c5 : World.cell? v4 ⟨w.heap.size, 5, none⟩ = some (.string D1.t) := O3v.cell 5
    have cf5 := O3v.frozen 5
    have c6 : World.cell? v4 ⟨w.heap.size, 6, none⟩ = some (.slice D1.A D1.l.length D1.c) := O3v.cell 6
    have cf6 := O3v.frozen 6
    have c7 : World.cell? v4 ⟨w.heap.size, 7, none⟩ = some (.slice x.A x.l.length x.c) := O3v.cell 7
    have cf7 := O3v.frozen 7
    have r0 : World.cell? v4 ⟨w.heap.size + 1 + 1, 0, none⟩ = some (.int .i64 0) := R3v.cell 0
    have rf0 := R3v.frozen 0
    have r1 : World.cell? v4 ⟨w.heap.size + 1 + 1, 1, none⟩ = some (.int .i64 0) := R3v.cell 1
    have rf1 := R3v.frozen 1
    have r2 : World.cell? v4 ⟨w.heap.size + 1 + 1, 2, none⟩ = some (.slice none 0 0) := R3v.cell 2
    have rf2 := R3v.frozen 2
    have r3 : World.cell? v4 ⟨w.heap.size + 1 + 1, 3, none⟩ = some (.int .i64 0) := R3v.cell 3
    have rf3 := R3v.frozen 3
    have r4 : World.cell? v4 ⟨w.heap.size + 1 + 1, 4, none⟩ = some (.int .i64 0) := R3v.cell 4
    have rf4 := R3v.frozen 4
    have r5 : World.cell? v4 ⟨w.heap.size + 1 + 1, 5, none⟩ = some (.string ⟨#[]⟩) := R3v.cell 5
    have rf5 := R3v.frozen 5
    have r6 : World.cell? v4 ⟨w.heap.size + 1 + 1, 6, none⟩ = some (.slice none 0 0) := R3v.cell 6
    have rf6 := R3v.frozen 6
    have r7 : World.cell? v4 ⟨w.heap.size + 1 + 1, 7, none⟩ = some (.slice none 0 0) := R3v.cell 7
    have rf7 := R3v.frozen 7
    have PP : Hid (Ko.E.Own (w.heap.size + 3) v4.heap.size v4 (Tr.mk (⟨x.a.k, numC x.a.n, D0A, D0C, SS, D1⟩ : Ko) KA KC KL)) := Tr.own_of (Ko.own_head (x := ⟨x.a.k, numC x.a.n, D0A, D0C, SS, D1⟩) P0 P1 (by omega) (by omega) ⟨hwN, hwS⟩) PK (by omega) (by omega)
    clear P0 P1 PK O3v R3v
    go_wp2_with fail
    refine bodyPost_ret (v := .agg #[.int .i64 x.a.k, .int .i64 (numC x.a.n), .slice D0A SS.length D0C, .int .i64 D1.k, .int .i64 D1.n, .string D1.t, .slice D1.A D1.l.length D1.c, .slice KA KL.length KC]) (by simp [results, Tryz.results107, go_sem, r0, r1, r2, r3, r4, r5, r6, r7]) rfl ⟨(Tr.mk (⟨x.a.k, numC x.a.n, D0A, D0C, SS, D1⟩ : Ko) KA KC KL), rfl, ?_, ?_, ?_⟩
    · show Tr.mk _ _ _ _ = _
      rw [HEK.out]
      simp only [Ko.er, HE1.out]
      rw [HN.out, HSS.out]
      cases x
      rfl
    · simp only [World.size_setCell]
      exact ((((((((((PP.out.far (by simp <;> omega) _).far (by simp <;> omega) _).far (by simp <;> omega) _).far (by simp <;> omega) _).far (by simp <;> omega) _).far (by simp <;> omega) _).far (by simp <;> omega) _).far (by simp <;> omega) _).far (by simp <;> omega) _).wide (by omega) (Nat.le_refl _))
    · exact (((((((((bv4.setCell (by simp <;> omega) _).setCell (by simp <;> omega) _).setCell (by simp <;> omega) _).setCell (by simp <;> omega) _).setCell (by simp <;> omega) _).setCell (by simp <;> omega) _).setCell (by simp <;> omega) _).setCell (by simp <;> omega) _).setCell (by simp <;> omega) _)
theorem cop_rany : ∀ m, CopOk m := by
  intro m
  induction m with
  | zero => intro d B w _ h; have := d.size_pos; omega
  | succ m ih => exact cop_step m (copL_step m (copC_step m ih))
mutual
theorem Tr.ren_same : ∀ d : Tr Ko, (d.ren numC).er Ko.er = d.er Ko.er
  | .mk a A c l => by
    have e : a.s.map numC = a.s := by rw [show numC = id from rfl]; exact List.map_id _
    simp only [Tr.ren, Tr.er, Tr.renL_same l]
    simp only [Ko.ren, Ko.er, e, numC, ite_self]
theorem Tr.renL_same : ∀ l : List (Tr Ko), Tr.erL Ko.er (Tr.renL numC l) = Tr.erL Ko.er l
  | [] => rfl
  | d :: r => by simp only [Tr.renL, Tr.erL, Tr.ren_same d, Tr.renL_same r]
end
set_option maxHeartbeats 2000000 in
theorem copyCore_any (d : Tr Ko) (B : Nat) (w : World) (hbk : d.bulk Ko.bulk ≤ 1500000) (hin : Ko.E.In w B d) (hB : B ≤ w.heap.size) :
    Calls Tryz.prog 52 #[Ko.val d] w (RetKo (d.er Ko.er) w) := by
  obtain ⟨W1, hW1⟩ : ∃ W1, W1 = w.alloc (.cells #[.int .i64 d.a.k, .int .i64 d.a.n, .slice d.a.sA d.a.s.length d.a.sC, .int .i64 d.a.d.k, .int .i64 d.a.d.n, .string d.a.d.t, .slice d.a.d.A d.a.d.l.length d.a.d.c, .slice d.A d.l.length d.c] 35) := ⟨_, rfl⟩
  obtain ⟨W2, hW2⟩ : ∃ W2, W2 = W1.alloc (.cells #[.int .i64 0, .int .i64 0, .slice none 0 0, .int .i64 0, .int .i64 0, .string ⟨#[]⟩, .slice none 0 0, .slice none 0 0] 35) := ⟨_, rfl⟩
  have z1 : W1.heap.size = w.heap.size + 1 := by rw [hW1]; simp
  have z2 : W2.heap.size = w.heap.size + 1 + 1 := by rw [hW2]; simp [z1]
  have B1 : Below w.heap.size w W1 := by rw [hW1]; exact (Below.refl _ _).alloc (Nat.le_refl _) _
  have B2 : Below W1.heap.size W1 W2 := by rw [hW2]; exact (Below.refl _ _).alloc (Nat.le_refl _) _
  have R0 : D.Blk W2 (w.heap.size + 1) 35 #[.int .i64 0, .int .i64 0, .slice none 0 0, .int .i64 0, .int .i64 0, .string ⟨#[]⟩, .slice none 0 0, .slice none 0 0] := by rw [hW2, ← z1]; exact D.Blk.new _ _ _
  have b0 : Below w.heap.size w W2 := B1.trans (B2.mono (by omega))
  have hcon := cop_rany d.size d B W2 hbk (Nat.le_refl _) (Elem.In.below hin (b0.mono hB)) (by omega)
  rw [d.ren_same] at hcon
  unfold Ko.val at hcon ⊢
  go_enter Tryz.func52, Tryz.ntmps52
  go_wp2_with fail
  rw [← hW1, ← hW2]
  clear hW1 hW2 B1 B2
  (with_reducible refine hcon.mono ?_)
  clear hcon
  rintro e v ⟨d', rfl, he, ho, hb⟩
  have zv := hb.size
  have Rv := R0.below hb (by omega)
  have bv := b0.trans (hb.mono (by omega))
  have HE := Lib.hid he
  have P0 := ho.wide (lo' := w.heap.size + 2) (by omega) (Nat.le_refl v.heap.size)
  clear he ho hb R0 b0
  have r0 : World.cell? v ⟨w.heap.size + 1, 0, none⟩ = some (.int .i64 0) := Rv.cell 0
  have g0 := Rv.frozen 0
  have r1 : World.cell? v ⟨w.heap.size + 1, 1, none⟩ = some (.int .i64 0) := Rv.cell 1
  have g1 := Rv.frozen 1
  have r2 : World.cell? v ⟨w.heap.size + 1, 2, none⟩ = some (.slice none 0 0) := Rv.cell 2
  have g2 := Rv.frozen 2
  have r3 : World.cell? v ⟨w.heap.size + 1, 3, none⟩ = some (.int .i64 0) := Rv.cell 3
  have g3 := Rv.frozen 3
  have r4 : World.cell? v ⟨w.heap.size + 1, 4, none⟩ = some (.int .i64 0) := Rv.cell 4
  have g4 := Rv.frozen 4
  have r5 : World.cell? v ⟨w.heap.size + 1, 5, none⟩ = some (.string ⟨#[]⟩) := Rv.cell 5
  have g5 := Rv.frozen 5
  have r6 : World.cell? v ⟨w.heap.size + 1, 6, none⟩ = some (.slice none 0 0) := Rv.cell 6
  have g6 := Rv.frozen 6
  have r7 : World.cell? v ⟨w.heap.size + 1, 7, none⟩ = some (.slice none 0 0) := Rv.cell 7
  have g7 := Rv.frozen 7
  have PP := Lib.hid P0
  clear P0 Rv
  simp only [Ko.val]
  go_wp2_with fail
  refine bodyPost_ret (v := .agg #[.int .i64 d'.a.k, .int .i64 d'.a.n, .slice d'.a.sA d'.a.s.length d'.a.sC, .int .i64 d'.a.d.k, .int .i64 d'.a.d.n, .string d'.a.d.t, .slice d'.a.d.A d'.a.d.l.length d'.a.d.c, .slice d'.A d'.l.length d'.c]) (by simp [results, Tryz.results52, go_sem, r0, r1, r2, r3, r4, r5, r6, r7]) rfl ⟨d', rfl, HE.out, ?_, ?_⟩
  · simp only [World.size_setCell]
    exact (((((((((PP.out.far (by simp <;> omega) _).far (by simp <;> omega) _).far (by simp <;> omega) _).far (by simp <;> omega) _).far (by simp <;> omega) _).far (by simp <;> omega) _).far (by simp <;> omega) _).far (by simp <;> omega) _).wide (by omega) (Nat.le_refl _))
  · exact ((((((((bv.setCell (by simp <;> omega) _).setCell (by simp <;> omega) _).setCell (by simp <;> omega) _).setCell (by simp <;> omega) _).setCell (by simp <;> omega) _).setCell (by simp <;> omega) _).setCell (by simp <;> omega) _).setCell (by simp <;> omega) _)
end Go.Proofs.YtpigpncbjckbcaaGreat
