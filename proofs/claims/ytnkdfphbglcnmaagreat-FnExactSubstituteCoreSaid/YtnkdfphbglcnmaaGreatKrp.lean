/-
  The program's replacing of a variable in a core term (written by gen/korep.py).
-/
import Derived.Test.YtnkdfphbglcnmaaGreatKsu
import Derived.Test.YtnkdfphbglcnmaaGreatKvMap
import Derived.Test.YtnkdfphbglcnmaaGreatKoCopy
namespace Go.Proofs.YtnkdfphbglcnmaaGreat
open Go.RowKit
theorem zeroCore (w : World) : (zeroValue 35).run Tryz.prog w = .ok (.agg #[.int .i64 0, .int .i64 0, .slice none 0 0, .int .i64 0, .int .i64 0, .string ⟨#[]⟩, .slice none 0 0, .slice none 0 0]) w := by kernel_rfl
def RetIn (B : Nat) (x : Tr Ko) (w : World) (e : Ending) (w' : World) : Prop := ∃ d : Tr Ko, e = .returned (Ko.val d) ∧ d.er Ko.er = x ∧ Ko.E.In w' w'.heap.size d ∧ (∀ k ∈ Ko.E.blks d, k < B ∨ w.heap.size ≤ k) ∧ Below w.heap.size w w'
def RetInL (B : Nat) (x : List (Tr Ko)) (w : World) (e : Ending) (w' : World) : Prop := ∃ (A : Option Addr) (c : Nat) (l : List (Tr Ko)), e = .returned (.slice A l.length c) ∧ Tr.erL Ko.er l = x ∧ Ko.E.LIn w' w'.heap.size A c l ∧ (∀ k ∈ Ko.E.lblks A l, k < B ∨ w.heap.size ≤ k) ∧ Below w.heap.size w w'
structure Rp (M : Nat) (n : Int) (y : Tr Ko) (B : Nat) (w : World) : Prop where
  m : IMapO w M 1 (fun u => if u = n then some (Ko.val y) else none)
  i : Ko.E.In w B y
  le : B ≤ w.heap.size
theorem Rp.below {M : Nat} {n : Int} {y : Tr Ko} {B b : Nat} {w w' : World} (h : Rp M n y B w) (hb : Below b w w') (hB : w.heap.size ≤ b) : Rp M n y B w' :=
  ⟨h.m.keep (hb.block _ (Nat.lt_of_lt_of_le h.m.lt hB)), Elem.In.below h.i (hb.mono (Nat.le_trans h.le hB)), Nat.le_trans h.le hb.size⟩
theorem Ko.in_keep {v v' : World} {d : Tr Ko} {g : Nat} (h : Ko.E.In v v.heap.size d) (hz : v.heap.size ≤ v'.heap.size) (hv : ∀ k, k ≠ g → v'.heap[k]? = v.heap[k]?) (hg : ∀ k ∈ Ko.E.blks d, k ≠ g) : Ko.E.In v' v'.heap.size d :=
  Ko.E.more (Ko.E.keepB h fun k hk => hv k (hg k hk)) hz
theorem Ko.in_keep2 {v v' : World} {d : Tr Ko} {g g' : Nat} (h : Ko.E.In v v.heap.size d) (hz : v.heap.size ≤ v'.heap.size) (hv : ∀ k, k ≠ g → k ≠ g' → v'.heap[k]? = v.heap[k]?) (hg : ∀ k ∈ Ko.E.blks d, k ≠ g ∧ k ≠ g') : Ko.E.In v' v'.heap.size d :=
  Ko.E.more (Ko.E.keepB h fun k hk => hv k (hg k hk).1 (hg k hk).2) hz
def RepOk (M : Nat) (n : Int) (y : Tr Ko) (B : Nat) (m : Nat) : Prop := ∀ (d : Tr Ko) (w : World), d.bulk Ko.bulk ≤ 1500000 → d.size ≤ m → Ko.E.In w B d → B ≤ w.heap.size → Rp M n y B w →
    Calls Tryz.prog 73 #[Ko.val d, .map (some M)] w (RetIn B ((Tr.sub n y d).er Ko.er) w)
def RepCOk (M : Nat) (n : Int) (y : Tr Ko) (B : Nat) (m : Nat) : Prop := ∀ (q : Nat) (d : Tr Ko) (w : World), d.bulk Ko.bulk ≤ 1500000 → d.size ≤ m → Ko.E.In w B d → B ≤ w.heap.size → Rp M n y B w → q < w.heap.size → w.cell? ⟨q, 0, none⟩ = some (.map (some M)) →
    Calls Tryz.prog 159 #[Ko.val d, .pointer (some ⟨q, 0, none⟩)] w (RetIn B ((Tr.sub n y d).er Ko.er) w)
def RepLOk (M : Nat) (n : Int) (y : Tr Ko) (B : Nat) (m : Nat) : Prop := ∀ (q : Nat) (A : Option Addr) (c : Nat) (l : List (Tr Ko)) (w : World), Tr.bulkL Ko.bulk l ≤ 1500000 → Tr.sizeL l ≤ m → Ko.E.LIn w B A c l → B ≤ w.heap.size → Rp M n y B w → q < w.heap.size → w.cell? ⟨q, 0, none⟩ = some (.map (some M)) →
    Calls Tryz.prog 158 #[.slice A l.length c, .func (.func 159) #[] #[.pointer (some ⟨q, 0, none⟩)]] w (RetInL B (Tr.erL Ko.er (Tr.subL n y l)) w)
set_option maxRecDepth 100000 in
set_option maxHeartbeats 4000000 in
theorem repC_step (M : Nat) (n : Int) (y : Tr Ko) (B : Nat) (m : Nat) (ih : RepOk M n y B m) : RepCOk M n y B m := by
  intro q d w hbk hm hin hB hrn hq hqc
  obtain ⟨W1, hW1⟩ : ∃ W1, W1 = w.alloc (.cells #[.int .i64 d.a.k, .int .i64 d.a.n, .slice d.a.sA d.a.s.length d.a.sC, .int .i64 d.a.d.k, .int .i64 d.a.d.n, .string d.a.d.t, .slice d.a.d.A d.a.d.l.length d.a.d.c, .slice d.A d.l.length d.c] 35) := ⟨_, rfl⟩
  obtain ⟨W2, hW2⟩ : ∃ W2, W2 = W1.alloc (.cells #[.int .i64 0, .int .i64 0, .slice none 0 0, .int .i64 0, .int .i64 0, .string ⟨#[]⟩, .slice none 0 0, .slice none 0 0] 35) := ⟨_, rfl⟩
  have z1 : W1.heap.size = w.heap.size + 1 := by rw [hW1]; simp
  have z2 : W2.heap.size = w.heap.size + 1 + 1 := by rw [hW2]; simp [z1]
  have B1 : Below w.heap.size w W1 := by rw [hW1]; exact (Below.refl _ _).alloc (Nat.le_refl _) _
  have B2 : Below W1.heap.size W1 W2 := by rw [hW2]; exact (Below.refl _ _).alloc (Nat.le_refl _) _
  have R0 : D.Blk W2 (w.heap.size + 1) 35 #[.int .i64 0, .int .i64 0, .slice none 0 0, .int .i64 0, .int .i64 0, .string ⟨#[]⟩, .slice none 0 0, .slice none 0 0] := by rw [hW2, ← z1]; exact D.Blk.new _ _ _
  have b0 : Below w.heap.size w W2 := B1.trans (B2.mono (by omega))
  have i0 := hin.below (b0.mono hB)
  have rn0 := hrn.below b0 (Nat.le_refl _)
  have vq : ((w.alloc (.cells #[.int .i64 d.a.k, .int .i64 d.a.n, .slice d.a.sA d.a.s.length d.a.sC, .int .i64 d.a.d.k, .int .i64 d.a.d.n, .string d.a.d.t, .slice d.a.d.A d.a.d.l.length d.a.d.c, .slice d.A d.l.length d.c] 35)).alloc (.cells #[.int .i64 0, .int .i64 0, .slice none 0 0, .int .i64 0, .int .i64 0, .string ⟨#[]⟩, .slice none 0 0, .slice none 0 0] 35)).cell? ⟨q, 0, none⟩ = some (.map (some M)) := by
    rw [← hW1, ← hW2]; exact (b0.cell (p := ⟨q, 0, none⟩) hq).trans hqc
  have hcon := ih d W2 hbk hm i0 (by omega) rn0
  unfold Ko.val at hcon ⊢
  clear hqc i0 rn0
  go_enter Tryz.func159, Tryz.ntmps159
  go_wp2_with fail
  rw [← hW1, ← hW2]
  clear vq hW1 hW2 B1 B2
  (with_reducible refine hcon.mono ?_)
  clear hcon
  rintro e v ⟨d', rfl, he, hi, hp, hb⟩
  have zv := hb.size
  have Rv := R0.below hb (by omega)
  have bv := b0.trans (hb.mono (by omega))
  have HE := Lib.hid he
  have HI := Lib.hid hi
  have HP := Lib.hid hp
  clear he hi hp hb R0 b0
  have r0 : World.cell? v ⟨w.heap.size + 1, 0, none⟩ = some (.int .i64 0) := Rv.cell 0
  have g0 := Rv.frozen 0
  have r1 : World.cell? v ⟨w.heap.size + 1, 1, none⟩ = some (.int .i64 0) := Rv.cell 1
  have g1 := Rv.frozen 1
  have r2 : World.cell? v ⟨w.heap.size + 1, 2, none⟩ = some (.slice none 0 0) := Rv.cell 2
  have g2 := Rv.frozen 2
  have r3 : World.cell? v ⟨w.heap.size + 1, 3, none⟩ = some (.int .i64 0) := Rv.cell 3
  have g3 := Rv.frozen 3
  have r4 : World.cell? v ⟨w.heap.size + 1, 4, none⟩ = some (.int .i64 0) := Rv.cell 4
  have g4 := Rv.frozen 4
  have r5 : World.cell? v ⟨w.heap.size + 1, 5, none⟩ = some (.string ⟨#[]⟩) := Rv.cell 5
  have g5 := Rv.frozen 5
  have r6 : World.cell? v ⟨w.heap.size + 1, 6, none⟩ = some (.slice none 0 0) := Rv.cell 6
  have g6 := Rv.frozen 6
  have r7 : World.cell? v ⟨w.heap.size + 1, 7, none⟩ = some (.slice none 0 0) := Rv.cell 7
  have g7 := Rv.frozen 7
  clear Rv
  simp only [Ko.val]
  go_wp2_with fail
  refine bodyPost_ret (v := .agg #[.int .i64 d'.a.k, .int .i64 d'.a.n, .slice d'.a.sA d'.a.s.length d'.a.sC, .int .i64 d'.a.d.k, .int .i64 d'.a.d.n, .string d'.a.d.t, .slice d'.a.d.A d'.a.d.l.length d'.a.d.c, .slice d'.A d'.l.length d'.c]) (by simp [results, Tryz.results159, go_sem, r0, r1, r2, r3, r4, r5, r6, r7]) rfl ⟨d', rfl, HE.out, ?_, fun k hk => ?_, ?_⟩
  · refine Ko.in_keep (g := w.heap.size + 1) HI.out (by simp only [World.size_setCell]; exact Nat.le_refl _) (fun k hk => ?_) (fun k hk e => ?_)
    · have e : ∀ (u : World) (j : Nat) (x : Value), (u.setCell ⟨w.heap.size + 1, j, none⟩ x).heap[k]? = u.heap[k]? := fun u j x => Below.heap_setCell _ _ _ _ (by simpa using hk)
      simp only [e]
    · rcases HP.out k hk with h | h <;> omega
  · rcases HP.out k hk with h | h
    · exact .inl h
    · exact .inr (by omega)
  · exact ((((((((bv.setCell (by simp <;> omega) _).setCell (by simp <;> omega) _).setCell (by simp <;> omega) _).setCell (by simp <;> omega) _).setCell (by simp <;> omega) _).setCell (by simp <;> omega) _).setCell (by simp <;> omega) _).setCell (by simp <;> omega) _)
set_option maxRecDepth 100000 in
set_option maxHeartbeats 4000000 in
theorem repL_step (M : Nat) (n : Int) (y : Tr Ko) (B : Nat) (m : Nat) (ih : RepCOk M n y B m) : RepLOk M n y B m := by
  intro q A c l w hbk hm hin hB hrn hq hqc
  have hcap := hin.cap
  have hll := Tr.length_le_sizeL l
  have hlb := Tr.sizeL_le_bulkL Ko.bulk l
  obtain ⟨i0, hi0, hz0, hz1, hz2⟩ := info_parts Ko_info
  have hmk := fun W => run_make_rowN (P := Tryz.prog) 33 35 i0 _ Tryz.underlying33 hi0 hz0 .i64 .i64 l.length l.length (Nat.le_refl _) (by rw [hz2]; omega) (by omega) W
  rw [hz1] at hmk
  by_cases hl0 : l = []
  · subst hl0
    simp only [List.length_nil]
    clear hqc hrn
    go_enter Tryz.func158, Tryz.ntmps158
    go_wp2_with fail
    go_ret
    exact ⟨none, 0, [], rfl, rfl, Elem.LIn.nil_ (by omega) (fun _ => rfl), fun k hk => by simp [Elem.lblks, Elem.lblk, Elem.blksL] at hk, Below.refl _ _⟩
  · have n0 : ((l.length : Int) == 0) = false := by
      have : 0 < l.length := List.length_pos_iff.2 hl0
      simp; omega
    clear hl0
    have HRN := Lib.hid hrn
    have HQC := Lib.hid hqc
    clear hrn hqc
    go_enter Tryz.func158, Tryz.ntmps158
    go_wp2_with fail
    go_loopw [6, 7, 16] (fun _ _ i wr => ∃ j : Nat, j ≤ l.length ∧ i = .int .i64 j ∧ ∃ ds : List (Tr Ko), Hid (Tr.erL Ko.er ds = Tr.erL Ko.er (Tr.subL n y (l.take j))) ∧ ds.length ≤ j ∧ j ≤ ds.length ∧ Ko.E.RowTo wr w.heap.size 35 l.length ds ∧ (∀ x ∈ ds, Ko.E.In wr wr.heap.size x ∧ ∀ k ∈ Ko.E.blks x, k < B ∨ w.heap.size < k) ∧ Below w.heap.size w wr) (fun _ _ i _ => l.length - (intOf i).toNat)
    case atStart => exact ⟨0, Nat.zero_le _, rfl, [], by simp [Tr.erL, Tr.subL, Hid], Nat.le_refl _, Nat.le_refl _, ⟨_, D.Blk.new _ _ _, by rw [size_madeCells]; show l.length * 8 = 8 * l.length; omega, by simp [Elem.cellsL]⟩, by simp, (Below.refl _ _).alloc (Nat.le_refl _) _⟩
    case round =>
      obtain ⟨j, hj, rfl, ds, HE, hd1, hd2, hF, hI, hb⟩ := hrel
      by_cases hlt : j < l.length
      · obtain ⟨b, o, rfl, hblk, c0, c1, c2, c3, c4, c5, c6, c7, hix⟩ := Ko.at_ (hin.below (hb.mono hB)) (i := j) (x := l[j]) (List.getElem?_eq_getElem hlt)
        have hs2 := hb.size
        have hsz := Tr.sizeL_mem (l := l) (List.getElem_mem hlt)
        have hbk1 := Tr.bulkL_mem (f := Ko.bulk) (l := l) (List.getElem_mem hlt)
        have hglt : w.heap.size < wr.heap.size := hF.lt
        obtain ⟨W2, hW2⟩ : ∃ W2, W2 = wr.alloc (.cells #[.int .i64 l[j].a.k, .int .i64 l[j].a.n, .slice l[j].a.sA l[j].a.s.length l[j].a.sC, .int .i64 l[j].a.d.k, .int .i64 l[j].a.d.n, .string l[j].a.d.t, .slice l[j].a.d.A l[j].a.d.l.length l[j].a.d.c, .slice l[j].A l[j].l.length l[j].c] 35) := ⟨_, rfl⟩
        have bA : Below wr.heap.size wr W2 := by rw [hW2]; exact (Below.refl _ _).alloc (Nat.le_refl _) _
        have z2 : W2.heap.size = wr.heap.size + 1 := by rw [hW2]; simp
        have y0 : Ko.Box W2 wr.heap.size l[j] := by rw [hW2]; exact Ko.Box.new wr l[j] _
        obtain ⟨d0, d1, d2, d3, d4, d5, d6, d7⟩ := y0
        have bq := hb.trans (bA.mono hs2)
        have hcon := ih q l[j] W2 (by omega) (by omega) (hix.below (bA.mono (by omega))) (by omega) (HRN.out.below bq (Nat.le_refl _)) (by omega) ((bq.cell (p := ⟨q, 0, none⟩) hq).trans HQC.out)
        unfold Ko.val at hcon
        clear bq
        have HIN := Lib.hid hI
        clear hI
        go_wp2_with fail
        rw [← hW2]
        clear hW2
        (with_reducible refine hcon.mono ?_)
        clear hcon
        rintro e w1 ⟨d, rfl, hde, hdi, hdp, hb1⟩
        have hb1 : Below wr.heap.size wr w1 := bA.trans (hb1.mono (by omega))
        have hz1w := hb1.size
        have hrow1 := hF.below hb1 hglt
        have e4 : Ko.E.n = 8 := rfl
        obtain ⟨v0, hc0⟩ := hrow1.old (i := j * 8) (by rw [e4]; omega)
        have f0 := hrow1.frozen (j * 8)
        obtain ⟨v1, hc1⟩ := hrow1.old (i := j * 8 + 1) (by rw [e4]; omega)
        have f1 := hrow1.frozen (j * 8 + 1)
        obtain ⟨v2, hc2⟩ := hrow1.old (i := j * 8 + 2) (by rw [e4]; omega)
        have f2 := hrow1.frozen (j * 8 + 2)
        obtain ⟨v3, hc3⟩ := hrow1.old (i := j * 8 + 3) (by rw [e4]; omega)
        have f3 := hrow1.frozen (j * 8 + 3)
        obtain ⟨v4, hc4⟩ := hrow1.old (i := j * 8 + 4) (by rw [e4]; omega)
        have f4 := hrow1.frozen (j * 8 + 4)
        obtain ⟨v5, hc5⟩ := hrow1.old (i := j * 8 + 5) (by rw [e4]; omega)
        have f5 := hrow1.frozen (j * 8 + 5)
        obtain ⟨v6, hc6⟩ := hrow1.old (i := j * 8 + 6) (by rw [e4]; omega)
        have f6 := hrow1.frozen (j * 8 + 6)
        obtain ⟨v7, hc7⟩ := hrow1.old (i := j * 8 + 7) (by rw [e4]; omega)
        have f7 := hrow1.frozen (j * 8 + 7)
        have hst := hrow1.step (d := d) (by omega)
        have hall : ∀ x ∈ ds ++ [d], Ko.E.In w1 w1.heap.size x ∧ ∀ k ∈ Ko.E.blks x, k < B ∨ w.heap.size < k := by
          intro x hx
          rcases List.mem_append.1 hx with hx | hx
          · obtain ⟨g1, g2⟩ := HIN.out x hx
            exact ⟨Ko.E.more (Elem.In.below g1 hb1) hz1w, g2⟩
          · rw [List.mem_singleton] at hx
            subst hx
            exact ⟨hdi, fun k hk => by rcases hdp k hk with h | h <;> omega⟩
        have hput : ∀ x ∈ ds ++ [d], Ko.E.In (Elem.put w1 w.heap.size (Ko.E.n * ds.length) (Ko.E.cells d)) (Elem.put w1 w.heap.size (Ko.E.n * ds.length) (Ko.E.cells d)).heap.size x ∧ ∀ k ∈ Ko.E.blks x, k < B ∨ w.heap.size < k := fun x hx => by
          obtain ⟨g1, g2⟩ := hall x hx
          refine ⟨Ko.in_keep (g := w.heap.size) g1 (by rw [Elem.put_size]; exact Nat.le_refl _) (fun k hk => Elem.put_heap _ _ _ _ _ hk) (fun k hk e => ?_), g2⟩
          have := g2 k hk; omega
        have ej : Ko.E.n * ds.length = j * 8 := by rw [e4]; omega
        rw [ej] at hst hput
        have Hst := Lib.hid hst
        have Hput := Lib.hid hput
        have Hde := Lib.hid hde
        clear hde hst hput hall hdi hdp e4 ej hrow1 d0 d1 d2 d3 d4 d5 d6 d7
        simp only [Ko.val]
        go_wp2_with fail
        refine ⟨⟨j + 1, by omega, by go_num, ds ++ [d], ?_, by simp; omega, by simp; omega, Hst.out, Hput.out, ?_⟩, by simp [intOf]; omega⟩
        · show _ = _
          rw [List.take_succ_eq_append_getElem hlt, Tr.subL_append, Tr.erL_append, Tr.erL_append, HE.out]
          simp [Tr.erL, Tr.subL, Hde.out]
        · exact (((((((((hb.trans (hb1.mono (by omega))).setCell (by simp) _).setCell (by simp) _).setCell (by simp) _).setCell (by simp) _).setCell (by simp) _).setCell (by simp) _).setCell (by simp) _).setCell (by simp) _)
      · have hj' : j = l.length := by omega
        have hj'' : ds.length = l.length := by omega
        subst hj'
        have HE' := HE.out
        rw [List.take_length] at HE'
        have HR := Lib.hid HE'
        have HL := Lib.hid hj''
        have hne : ds ≠ [] := by
          intro h
          rw [h] at hj''
          have h2 : l = [] := List.length_eq_zero_iff.1 (by simpa using hj''.symm)
          rw [h2] at n0; simp at n0
        have hin2 : Ko.E.LIn wr wr.heap.size (some ⟨w.heap.size, 0, none⟩) l.length ds := ⟨⟨by omega, by omega⟩, by simp, fun _ => ⟨w.heap.size, 0, rfl, hF.lt, fun j u hu => by rw [Nat.zero_add]; exact hF.cellsOf j u hu⟩, fun x hx => (hI x hx).1⟩
        have hbl : ∀ k ∈ Ko.E.lblks (some ⟨w.heap.size, 0, none⟩) ds, k < B ∨ w.heap.size ≤ k := by
          intro k hk
          unfold Elem.lblks at hk
          rw [Elem.lblk_some hne] at hk
          rcases List.mem_append.1 hk with hk | hk
          · rw [List.mem_singleton] at hk; omega
          · obtain ⟨x, hx, hkx⟩ := Elem.blksL_mem.1 hk
            have := (hI x hx).2 k hkx; omega
        have HN2 := Lib.hid hin2
        have HBL := Lib.hid hbl
        clear hj'' HE' hin2 hbl hne hI hF
        go_wp2_with fail
        go_ret
        exact ⟨some ⟨w.heap.size, 0, none⟩, l.length, ds, ret_sl HL.out.symm, HR.out, HN2.out, HBL.out, hb⟩
set_option maxRecDepth 100000 in
set_option maxHeartbeats 8000000 in
theorem rep_step (M : Nat) (n : Int) (y : Tr Ko) (B : Nat) (m : Nat) (ihL : RepLOk M n y B m) : RepOk M n y B (m + 1) := by
  intro d w hbk hm hin hB hrn
  have hmm : Tr.sizeL d.l ≤ m := by rw [Tr.size_eq] at hm; omega
  have hbk2 : Tr.bulkL Ko.bulk d.l ≤ 1500000 := by rw [Tr.bulk_eq] at hbk; omega
  have hwfn := (Ko.E_in hin).1.wf.1
  have HSU := Lib.hid (Tr.sub_eq n y d)
  obtain ⟨W1, hW1⟩ : ∃ W1, W1 = w.alloc (.cells #[.int .i64 d.a.k, .int .i64 d.a.n, .slice d.a.sA d.a.s.length d.a.sC, .int .i64 d.a.d.k, .int .i64 d.a.d.n, .string d.a.d.t, .slice d.a.d.A d.a.d.l.length d.a.d.c, .slice d.A d.l.length d.c] 35) := ⟨_, rfl⟩
  obtain ⟨W2, hW2⟩ : ∃ W2, W2 = W1.alloc (.cells #[.map (some M)] 123) := ⟨_, rfl⟩
  obtain ⟨W3, hW3⟩ : ∃ W3, W3 = W2.alloc (.cells #[.int .i64 0, .int .i64 0, .slice none 0 0, .int .i64 0, .int .i64 0, .string ⟨#[]⟩, .slice none 0 0, .slice none 0 0] 35) := ⟨_, rfl⟩
  have z1 : W1.heap.size = w.heap.size + 1 := by rw [hW1]; simp
  have z2 : W2.heap.size = w.heap.size + 1 + 1 := by rw [hW2]; simp [z1]
  have z3 : W3.heap.size = w.heap.size + 1 + 1 + 1 := by rw [hW3]; simp [z2]
  have B1 : Below w.heap.size w W1 := by rw [hW1]; exact (Below.refl _ _).alloc (Nat.le_refl _) _
  have B2 : Below W1.heap.size W1 W2 := by rw [hW2]; exact (Below.refl _ _).alloc (Nat.le_refl _) _
  have B3 : Below W2.heap.size W2 W3 := by rw [hW3]; exact (Below.refl _ _).alloc (Nat.le_refl _) _
  have O0 : D.Blk W1 w.heap.size 35 #[.int .i64 d.a.k, .int .i64 d.a.n, .slice d.a.sA d.a.s.length d.a.sC, .int .i64 d.a.d.k, .int .i64 d.a.d.n, .string d.a.d.t, .slice d.a.d.A d.a.d.l.length d.a.d.c, .slice d.A d.l.length d.c] := by rw [hW1]; exact D.Blk.new _ _ _
  have O0 := (O0.below B2 (by omega)).below B3 (by omega)
  have F0 : D.Blk W2 (w.heap.size + 1) 123 #[.map (some M)] := by rw [hW2, ← z1]; exact D.Blk.new _ _ _
  have F0 := F0.below B3 (by omega)
  have R0 : D.Blk W3 (w.heap.size + 1 + 1) 35 #[.int .i64 0, .int .i64 0, .slice none 0 0, .int .i64 0, .int .i64 0, .string ⟨#[]⟩, .slice none 0 0, .slice none 0 0] := by rw [hW3, ← z2]; exact D.Blk.new _ _ _
  have b0 : Below w.heap.size w W3 := (B1.trans (B2.mono (by omega))).trans (B3.mono (by omega))
  have rn0 := hrn.below b0 (Nat.le_refl _)
  have hlook := rn0.m.look (t := 123) (e := 35) Tryz.underlying123 (zeroCore W3) hwfn
  have zb : w.heap.size + 3 ≤ W3.heap.size := by omega
  have a0 : World.cell? W3 ⟨w.heap.size, 0, none⟩ = some (.int .i64 d.a.k) := O0.cell 0
  have a1 : World.cell? W3 ⟨w.heap.size, 1, none⟩ = some (.int .i64 d.a.n) := O0.cell 1
  have a2 : World.cell? W3 ⟨w.heap.size, 2, none⟩ = some (.slice d.a.sA d.a.s.length d.a.sC) := O0.cell 2
  have a3 : World.cell? W3 ⟨w.heap.size, 3, none⟩ = some (.int .i64 d.a.d.k) := O0.cell 3
  have a4 : World.cell? W3 ⟨w.heap.size, 4, none⟩ = some (.int .i64 d.a.d.n) := O0.cell 4
  have a5 : World.cell? W3 ⟨w.heap.size, 5, none⟩ = some (.string d.a.d.t) := O0.cell 5
  have a6 : World.cell? W3 ⟨w.heap.size, 6, none⟩ = some (.slice d.a.d.A d.a.d.l.length d.a.d.c) := O0.cell 6
  have a7 : World.cell? W3 ⟨w.heap.size, 7, none⟩ = some (.slice d.A d.l.length d.c) := O0.cell 7
  have q0 : World.cell? W3 ⟨w.heap.size + 1, 0, none⟩ = some (.map (some M)) := F0.cell 0
  have r0 : World.cell? W3 ⟨w.heap.size + 1 + 1, 0, none⟩ = some (.int .i64 0) := R0.cell 0
  have g0 := R0.frozen 0
  have r1 : World.cell? W3 ⟨w.heap.size + 1 + 1, 1, none⟩ = some (.int .i64 0) := R0.cell 1
  have g1 := R0.frozen 1
  have r2 : World.cell? W3 ⟨w.heap.size + 1 + 1, 2, none⟩ = some (.slice none 0 0) := R0.cell 2
  have g2 := R0.frozen 2
  have r3 : World.cell? W3 ⟨w.heap.size + 1 + 1, 3, none⟩ = some (.int .i64 0) := R0.cell 3
  have g3 := R0.frozen 3
  have r4 : World.cell? W3 ⟨w.heap.size + 1 + 1, 4, none⟩ = some (.int .i64 0) := R0.cell 4
  have g4 := R0.frozen 4
  have r5 : World.cell? W3 ⟨w.heap.size + 1 + 1, 5, none⟩ = some (.string ⟨#[]⟩) := R0.cell 5
  have g5 := R0.frozen 5
  have r6 : World.cell? W3 ⟨w.heap.size + 1 + 1, 6, none⟩ = some (.slice none 0 0) := R0.cell 6
  have g6 := R0.frozen 6
  have r7 : World.cell? W3 ⟨w.heap.size + 1 + 1, 7, none⟩ = some (.slice none 0 0) := R0.cell 7
  have g7 := R0.frozen 7
  unfold Ko.val
  by_cases hn : d.a.n = n
  · rw [if_pos hn] at hlook
    simp only [Option.getD_some, Option.isSome_some, Ko.val] at hlook
    have HHN := Lib.hid hn
    cases q1 : (d.a.k == 2)
    · rw [if_neg (fun h => by rw [h.1] at q1; simp at q1)] at HSU
      clear hn
      obtain ⟨W4, hW4⟩ : ∃ W4, W4 = W3.alloc (.cells #[.int .i64 y.a.k, .int .i64 y.a.n, .slice y.a.sA y.a.s.length y.a.sC, .int .i64 y.a.d.k, .int .i64 y.a.d.n, .string y.a.d.t, .slice y.a.d.A y.a.d.l.length y.a.d.c, .slice y.A y.l.length y.c] 35) := ⟨_, rfl⟩
      have B4 : Below W3.heap.size W3 W4 := by rw [hW4]; exact (Below.refl _ _).alloc (Nat.le_refl _) _
      have z4 := B4.size
      have T4 : D.Blk W4 W3.heap.size 35 #[.int .i64 y.a.k, .int .i64 y.a.n, .slice y.a.sA y.a.s.length y.a.sC, .int .i64 y.a.d.k, .int .i64 y.a.d.n, .string y.a.d.t, .slice y.a.d.A y.a.d.l.length y.a.d.c, .slice y.A y.l.length y.c] := by rw [hW4]; exact D.Blk.new _ _ _
      have O4 := O0.below B4 (by omega)
      have F4 := F0.below B4 (by omega)
      have R4 := R0.below B4 (by omega)
      have b4 := b0.trans (B4.mono (by omega))
      have rn4 := rn0.below B4 (Nat.le_refl _)
      have in4 := Elem.In.below hin (b4.mono hB)
      have lB4 : B ≤ W4.heap.size := by omega
      go_enter Tryz.func73, Tryz.ntmps73
      go_upto_region 1 with fail
      rw [← hW1, ← hW2, ← hW3]
      clear hW1 hW2 hW3 B1 B2 B3 z1 z2 z3
      go_upto_region 2 with fail
      rw [← hW4]
      clear hW4 B4 a0 r0 g0 a1 r1 g1 a2 r2 g2 a3 r3 g3 a4 r4 g4 a5 r5 g5 a6 r6 g6 a7 r7 g7 q0
      have a0 : World.cell? W4 ⟨w.heap.size, 0, none⟩ = some (.int .i64 d.a.k) := O4.cell 0
      have af0 := O4.frozen 0
      have a1 : World.cell? W4 ⟨w.heap.size, 1, none⟩ = some (.int .i64 d.a.n) := O4.cell 1
      have af1 := O4.frozen 1
      have a2 : World.cell? W4 ⟨w.heap.size, 2, none⟩ = some (.slice d.a.sA d.a.s.length d.a.sC) := O4.cell 2
      have af2 := O4.frozen 2
      have a3 : World.cell? W4 ⟨w.heap.size, 3, none⟩ = some (.int .i64 d.a.d.k) := O4.cell 3
      have af3 := O4.frozen 3
      have a4 : World.cell? W4 ⟨w.heap.size, 4, none⟩ = some (.int .i64 d.a.d.n) := O4.cell 4
      have af4 := O4.frozen 4
      have a5 : World.cell? W4 ⟨w.heap.size, 5, none⟩ = some (.string d.a.d.t) := O4.cell 5
      have af5 := O4.frozen 5
      have a6 : World.cell? W4 ⟨w.heap.size, 6, none⟩ = some (.slice d.a.d.A d.a.d.l.length d.a.d.c) := O4.cell 6
      have af6 := O4.frozen 6
      have a7 : World.cell? W4 ⟨w.heap.size, 7, none⟩ = some (.slice d.A d.l.length d.c) := O4.cell 7
      have af7 := O4.frozen 7
      have q0 : World.cell? W4 ⟨w.heap.size + 1, 0, none⟩ = some (.map (some M)) := F4.cell 0
      have r0 : World.cell? W4 ⟨w.heap.size + 1 + 1, 0, none⟩ = some (.int .i64 0) := R4.cell 0
      have g0 := R4.frozen 0
      have r1 : World.cell? W4 ⟨w.heap.size + 1 + 1, 1, none⟩ = some (.int .i64 0) := R4.cell 1
      have g1 := R4.frozen 1
      have r2 : World.cell? W4 ⟨w.heap.size + 1 + 1, 2, none⟩ = some (.slice none 0 0) := R4.cell 2
      have g2 := R4.frozen 2
      have r3 : World.cell? W4 ⟨w.heap.size + 1 + 1, 3, none⟩ = some (.int .i64 0) := R4.cell 3
      have g3 := R4.frozen 3
      have r4 : World.cell? W4 ⟨w.heap.size + 1 + 1, 4, none⟩ = some (.int .i64 0) := R4.cell 4
      have g4 := R4.frozen 4
      have r5 : World.cell? W4 ⟨w.heap.size + 1 + 1, 5, none⟩ = some (.string ⟨#[]⟩) := R4.cell 5
      have g5 := R4.frozen 5
      have r6 : World.cell? W4 ⟨w.heap.size + 1 + 1, 6, none⟩ = some (.slice none 0 0) := R4.cell 6
      have g6 := R4.frozen 6
      have r7 : World.cell? W4 ⟨w.heap.size + 1 + 1, 7, none⟩ = some (.slice none 0 0) := R4.cell 7
      have g7 := R4.frozen 7
      have hcon := ihL (w.heap.size + 1) d.A d.c d.l W4 hbk2 hmm (Ko.E_in in4).2 lB4 rn4 (by omega) q0
      go_wp2_with fail
      (with_reducible refine hcon.mono ?_)
      clear hcon
      rintro e v ⟨A5, c5, l5, rfl, he, hi, hp, hb⟩
      have zv := hb.size
      have O5 := O4.below hb (by omega)
      have R5 := R4.below hb (by omega)
      have b5 := b4.trans (hb.mono (by omega))
      have HE := Lib.hid he
      have HI := Lib.hid hi
      have HP := Lib.hid hp
      have in5 := Elem.In.below hin (b5.mono hB)
      clear he hi hp hb O4 F4 R4 b4 rn4 in4 a0 af0 r0 g0 a1 af1 r1 g1 a2 af2 r2 g2 a3 af3 r3 g3 a4 af4 r4 g4 a5 af5 r5 g5 a6 af6 r6 g6 a7 af7 r7 g7 q0
      have a0 : World.cell? v ⟨w.heap.size, 0, none⟩ = some (.int .i64 d.a.k) := O5.cell 0
      have af0 := O5.frozen 0
      have a1 : World.cell? v ⟨w.heap.size, 1, none⟩ = some (.int .i64 d.a.n) := O5.cell 1
      have af1 := O5.frozen 1
      have a2 : World.cell? v ⟨w.heap.size, 2, none⟩ = some (.slice d.a.sA d.a.s.length d.a.sC) := O5.cell 2
      have af2 := O5.frozen 2
      have a3 : World.cell? v ⟨w.heap.size, 3, none⟩ = some (.int .i64 d.a.d.k) := O5.cell 3
      have af3 := O5.frozen 3
      have a4 : World.cell? v ⟨w.heap.size, 4, none⟩ = some (.int .i64 d.a.d.n) := O5.cell 4
      have af4 := O5.frozen 4
      have a5 : World.cell? v ⟨w.heap.size, 5, none⟩ = some (.string d.a.d.t) := O5.cell 5
      have af5 := O5.frozen 5
      have a6 : World.cell? v ⟨w.heap.size, 6, none⟩ = some (.slice d.a.d.A d.a.d.l.length d.a.d.c) := O5.cell 6
      have af6 := O5.frozen 6
      have a7 : World.cell? v ⟨w.heap.size, 7, none⟩ = some (.slice d.A d.l.length d.c) := O5.cell 7
      have af7 := O5.frozen 7
      have r0 : World.cell? v ⟨w.heap.size + 1 + 1, 0, none⟩ = some (.int .i64 0) := R5.cell 0
      have g0 := R5.frozen 0
      have r1 : World.cell? v ⟨w.heap.size + 1 + 1, 1, none⟩ = some (.int .i64 0) := R5.cell 1
      have g1 := R5.frozen 1
      have r2 : World.cell? v ⟨w.heap.size + 1 + 1, 2, none⟩ = some (.slice none 0 0) := R5.cell 2
      have g2 := R5.frozen 2
      have r3 : World.cell? v ⟨w.heap.size + 1 + 1, 3, none⟩ = some (.int .i64 0) := R5.cell 3
      have g3 := R5.frozen 3
      have r4 : World.cell? v ⟨w.heap.size + 1 + 1, 4, none⟩ = some (.int .i64 0) := R5.cell 4
      have g4 := R5.frozen 4
      have r5 : World.cell? v ⟨w.heap.size + 1 + 1, 5, none⟩ = some (.string ⟨#[]⟩) := R5.cell 5
      have g5 := R5.frozen 5
      have r6 : World.cell? v ⟨w.heap.size + 1 + 1, 6, none⟩ = some (.slice none 0 0) := R5.cell 6
      have g6 := R5.frozen 6
      have r7 : World.cell? v ⟨w.heap.size + 1 + 1, 7, none⟩ = some (.slice none 0 0) := R5.cell 7
      have g7 := R5.frozen 7
      clear O5 R5
      go_wp2_with fail
      have HBK : ∀ k ∈ Ko.E.blks (Tr.mk d.a A5 c5 l5), k < B ∨ w.heap.size + 3 ≤ k := fun k hk => by
        rw [show Ko.E.blks (Tr.mk d.a A5 c5 l5) = Ko.H.blks d.a ++ Ko.E.lblks A5 l5 from Tr.blks_eq _ _ _ _, List.mem_append] at hk
        rcases hk with hk | hk
        · exact .inl (Ko.H.lt (Ko.E_in hin).1 k hk)
        · rcases HP.out k hk with h | h
          · exact .inl h
          · exact .inr (by omega)
      refine bodyPost_ret (v := .agg #[.int .i64 d.a.k, .int .i64 d.a.n, .slice d.a.sA d.a.s.length d.a.sC, .int .i64 d.a.d.k, .int .i64 d.a.d.n, .string d.a.d.t, .slice d.a.d.A d.a.d.l.length d.a.d.c, .slice A5 l5.length c5]) (by simp [results, Tryz.results73, go_sem, r0, r1, r2, r3, r4, r5, r6, r7]) rfl ⟨(Tr.mk d.a A5 c5 l5), rfl, ?_, ?_, fun k hk => ?_, ?_⟩
      · rw [HSU.out]
        simp only [Tr.er, HE.out]
      · have hI5 : Ko.E.In v v.heap.size (Tr.mk d.a A5 c5 l5) := Tr.in_iff.2 ⟨(Ko.E_in (Ko.E.more in5 (show B ≤ v.heap.size by omega))).1, HI.out⟩
        refine Ko.in_keep2 (g := w.heap.size) (g' := w.heap.size + 1 + 1) hI5 (by simp only [World.size_setCell]; exact Nat.le_refl _) (fun k hk hk2 => ?_) (fun k hk => ?_)
        · have e : ∀ (u : World) (j : Nat) (x : Value), (u.setCell ⟨w.heap.size + 1 + 1, j, none⟩ x).heap[k]? = u.heap[k]? := fun u j x => Below.heap_setCell _ _ _ _ (by simpa using hk2)
          have e' : ∀ (u : World) (j : Nat) (x : Value), (u.setCell ⟨w.heap.size, j, none⟩ x).heap[k]? = u.heap[k]? := fun u j x => Below.heap_setCell _ _ _ _ (by simpa using hk)
          simp only [e, e']
        · have := HBK k hk; omega
      · have := HBK k hk; omega
      · exact (((((((((b5.setCell (by simp <;> omega) _).setCell (by simp <;> omega) _).setCell (by simp <;> omega) _).setCell (by simp <;> omega) _).setCell (by simp <;> omega) _).setCell (by simp <;> omega) _).setCell (by simp <;> omega) _).setCell (by simp <;> omega) _).setCell (by simp <;> omega) _)
    · rw [if_pos ⟨by rw [beq_iff_eq] at q1; exact q1, hn⟩] at HSU
      clear hn
      obtain ⟨W4, hW4⟩ : ∃ W4, W4 = W3.alloc (.cells #[.int .i64 y.a.k, .int .i64 y.a.n, .slice y.a.sA y.a.s.length y.a.sC, .int .i64 y.a.d.k, .int .i64 y.a.d.n, .string y.a.d.t, .slice y.a.d.A y.a.d.l.length y.a.d.c, .slice y.A y.l.length y.c] 35) := ⟨_, rfl⟩
      have B4 : Below W3.heap.size W3 W4 := by rw [hW4]; exact (Below.refl _ _).alloc (Nat.le_refl _) _
      have z4 := B4.size
      have T4 : D.Blk W4 W3.heap.size 35 #[.int .i64 y.a.k, .int .i64 y.a.n, .slice y.a.sA y.a.s.length y.a.sC, .int .i64 y.a.d.k, .int .i64 y.a.d.n, .string y.a.d.t, .slice y.a.d.A y.a.d.l.length y.a.d.c, .slice y.A y.l.length y.c] := by rw [hW4]; exact D.Blk.new _ _ _
      have O4 := O0.below B4 (by omega)
      have F4 := F0.below B4 (by omega)
      have R4 := R0.below B4 (by omega)
      have b4 := b0.trans (B4.mono (by omega))
      have rn4 := rn0.below B4 (Nat.le_refl _)
      have in4 := Elem.In.below hin (b4.mono hB)
      have lB4 : B ≤ W4.heap.size := by omega
      go_enter Tryz.func73, Tryz.ntmps73
      go_upto_region 1 with fail
      rw [← hW1, ← hW2, ← hW3]
      clear hW1 hW2 hW3 B1 B2 B3 z1 z2 z3
      go_upto_region 2 with fail
      rw [← hW4]
      clear hW4 B4 a0 r0 g0 a1 r1 g1 a2 r2 g2 a3 r3 g3 a4 r4 g4 a5 r5 g5 a6 r6 g6 a7 r7 g7 q0
      have a0 : World.cell? W4 ⟨w.heap.size, 0, none⟩ = some (.int .i64 d.a.k) := O4.cell 0
      have af0 := O4.frozen 0
      have a1 : World.cell? W4 ⟨w.heap.size, 1, none⟩ = some (.int .i64 d.a.n) := O4.cell 1
      have af1 := O4.frozen 1
      have a2 : World.cell? W4 ⟨w.heap.size, 2, none⟩ = some (.slice d.a.sA d.a.s.length d.a.sC) := O4.cell 2
      have af2 := O4.frozen 2
      have a3 : World.cell? W4 ⟨w.heap.size, 3, none⟩ = some (.int .i64 d.a.d.k) := O4.cell 3
      have af3 := O4.frozen 3
      have a4 : World.cell? W4 ⟨w.heap.size, 4, none⟩ = some (.int .i64 d.a.d.n) := O4.cell 4
      have af4 := O4.frozen 4
      have a5 : World.cell? W4 ⟨w.heap.size, 5, none⟩ = some (.string d.a.d.t) := O4.cell 5
      have af5 := O4.frozen 5
      have a6 : World.cell? W4 ⟨w.heap.size, 6, none⟩ = some (.slice d.a.d.A d.a.d.l.length d.a.d.c) := O4.cell 6
      have af6 := O4.frozen 6
      have a7 : World.cell? W4 ⟨w.heap.size, 7, none⟩ = some (.slice d.A d.l.length d.c) := O4.cell 7
      have af7 := O4.frozen 7
      have q0 : World.cell? W4 ⟨w.heap.size + 1, 0, none⟩ = some (.map (some M)) := F4.cell 0
      have r0 : World.cell? W4 ⟨w.heap.size + 1 + 1, 0, none⟩ = some (.int .i64 0) := R4.cell 0
      have g0 := R4.frozen 0
      have r1 : World.cell? W4 ⟨w.heap.size + 1 + 1, 1, none⟩ = some (.int .i64 0) := R4.cell 1
      have g1 := R4.frozen 1
      have r2 : World.cell? W4 ⟨w.heap.size + 1 + 1, 2, none⟩ = some (.slice none 0 0) := R4.cell 2
      have g2 := R4.frozen 2
      have r3 : World.cell? W4 ⟨w.heap.size + 1 + 1, 3, none⟩ = some (.int .i64 0) := R4.cell 3
      have g3 := R4.frozen 3
      have r4 : World.cell? W4 ⟨w.heap.size + 1 + 1, 4, none⟩ = some (.int .i64 0) := R4.cell 4
      have g4 := R4.frozen 4
      have r5 : World.cell? W4 ⟨w.heap.size + 1 + 1, 5, none⟩ = some (.string ⟨#[]⟩) := R4.cell 5
      have g5 := R4.frozen 5
      have r6 : World.cell? W4 ⟨w.heap.size + 1 + 1, 6, none⟩ = some (.slice none 0 0) := R4.cell 6
      have g6 := R4.frozen 6
      have r7 : World.cell? W4 ⟨w.heap.size + 1 + 1, 7, none⟩ = some (.slice none 0 0) := R4.cell 7
      have g7 := R4.frozen 7
      have tb0 : World.cell? W4 ⟨W3.heap.size, 0, none⟩ = some (.int .i64 y.a.k) := T4.cell 0
      have tb1 : World.cell? W4 ⟨W3.heap.size, 1, none⟩ = some (.int .i64 y.a.n) := T4.cell 1
      have tb2 : World.cell? W4 ⟨W3.heap.size, 2, none⟩ = some (.slice y.a.sA y.a.s.length y.a.sC) := T4.cell 2
      have tb3 : World.cell? W4 ⟨W3.heap.size, 3, none⟩ = some (.int .i64 y.a.d.k) := T4.cell 3
      have tb4 : World.cell? W4 ⟨W3.heap.size, 4, none⟩ = some (.int .i64 y.a.d.n) := T4.cell 4
      have tb5 : World.cell? W4 ⟨W3.heap.size, 5, none⟩ = some (.string y.a.d.t) := T4.cell 5
      have tb6 : World.cell? W4 ⟨W3.heap.size, 6, none⟩ = some (.slice y.a.d.A y.a.d.l.length y.a.d.c) := T4.cell 6
      have tb7 : World.cell? W4 ⟨W3.heap.size, 7, none⟩ = some (.slice y.A y.l.length y.c) := T4.cell 7
      go_wp2_with fail
      refine bodyPost_ret (v := .agg #[.int .i64 y.a.k, .int .i64 y.a.n, .slice y.a.sA y.a.s.length y.a.sC, .int .i64 y.a.d.k, .int .i64 y.a.d.n, .string y.a.d.t, .slice y.a.d.A y.a.d.l.length y.a.d.c, .slice y.A y.l.length y.c]) (by simp [results, Tryz.results73, go_sem, r0, r1, r2, r3, r4, r5, r6, r7]) rfl ⟨y, rfl, by rw [HSU.out], ?_, fun k hk => .inl (Ko.E.lt hrn.i k hk), ?_⟩
      · refine Ko.in_keep (g := w.heap.size + 1 + 1) (Ko.E.more rn4.i lB4) (by simp only [World.size_setCell]; exact Nat.le_refl _) (fun k hk => ?_) (fun k hk => by have := Ko.E.lt hrn.i k hk; omega)
        have e : ∀ (u : World) (j : Nat) (x : Value), (u.setCell ⟨w.heap.size + 1 + 1, j, none⟩ x).heap[k]? = u.heap[k]? := fun u j x => Below.heap_setCell _ _ _ _ (by simpa using hk)
        simp only [e]
      · exact ((((((((b4.setCell (by simp <;> omega) _).setCell (by simp <;> omega) _).setCell (by simp <;> omega) _).setCell (by simp <;> omega) _).setCell (by simp <;> omega) _).setCell (by simp <;> omega) _).setCell (by simp <;> omega) _).setCell (by simp <;> omega) _)
  · rw [if_neg hn] at hlook
    simp only [Option.getD_none, Option.isSome_none] at hlook
    rw [if_neg (fun h => hn h.2)] at HSU
    clear hn
    obtain ⟨W4, hW4⟩ : ∃ W4, W4 = W3.alloc (.cells #[.int .i64 0, .int .i64 0, .slice none 0 0, .int .i64 0, .int .i64 0, .string ⟨#[]⟩, .slice none 0 0, .slice none 0 0] 35) := ⟨_, rfl⟩
    have B4 : Below W3.heap.size W3 W4 := by rw [hW4]; exact (Below.refl _ _).alloc (Nat.le_refl _) _
    have z4 := B4.size
    have T4 : D.Blk W4 W3.heap.size 35 #[.int .i64 0, .int .i64 0, .slice none 0 0, .int .i64 0, .int .i64 0, .string ⟨#[]⟩, .slice none 0 0, .slice none 0 0] := by rw [hW4]; exact D.Blk.new _ _ _
    have O4 := O0.below B4 (by omega)
    have F4 := F0.below B4 (by omega)
    have R4 := R0.below B4 (by omega)
    have b4 := b0.trans (B4.mono (by omega))
    have rn4 := rn0.below B4 (Nat.le_refl _)
    have in4 := Elem.In.below hin (b4.mono hB)
    have lB4 : B ≤ W4.heap.size := by omega
    go_enter Tryz.func73, Tryz.ntmps73
    go_upto_region 1 with fail
    rw [← hW1, ← hW2, ← hW3]
    clear hW1 hW2 hW3 B1 B2 B3 z1 z2 z3
    go_upto_region 2 with fail
    rw [← hW4]
    clear hW4 B4 a0 r0 g0 a1 r1 g1 a2 r2 g2 a3 r3 g3 a4 r4 g4 a5 r5 g5 a6 r6 g6 a7 r7 g7 q0
    have a0 : World.cell? W4 ⟨w.heap.size, 0, none⟩ = some (.int .i64 d.a.k) := O4.cell 0
    have af0 := O4.frozen 0
    have a1 : World.cell? W4 ⟨w.heap.size, 1, none⟩ = some (.int .i64 d.a.n) := O4.cell 1
    have af1 := O4.frozen 1
    have a2 : World.cell? W4 ⟨w.heap.size, 2, none⟩ = some (.slice d.a.sA d.a.s.length d.a.sC) := O4.cell 2
    have af2 := O4.frozen 2
    have a3 : World.cell? W4 ⟨w.heap.size, 3, none⟩ = some (.int .i64 d.a.d.k) := O4.cell 3
    have af3 := O4.frozen 3
    have a4 : World.cell? W4 ⟨w.heap.size, 4, none⟩ = some (.int .i64 d.a.d.n) := O4.cell 4
    have af4 := O4.frozen 4
    have a5 : World.cell? W4 ⟨w.heap.size, 5, none⟩ = some (.string d.a.d.t) := O4.cell 5
    have af5 := O4.frozen 5
    have a6 : World.cell? W4 ⟨w.heap.size, 6, none⟩ = some (.slice d.a.d.A d.a.d.l.length d.a.d.c) := O4.cell 6
    have af6 := O4.frozen 6
    have a7 : World.cell? W4 ⟨w.heap.size, 7, none⟩ = some (.slice d.A d.l.length d.c) := O4.cell 7
    have af7 := O4.frozen 7
    have q0 : World.cell? W4 ⟨w.heap.size + 1, 0, none⟩ = some (.map (some M)) := F4.cell 0
    have r0 : World.cell? W4 ⟨w.heap.size + 1 + 1, 0, none⟩ = some (.int .i64 0) := R4.cell 0
    have g0 := R4.frozen 0
    have r1 : World.cell? W4 ⟨w.heap.size + 1 + 1, 1, none⟩ = some (.int .i64 0) := R4.cell 1
    have g1 := R4.frozen 1
    have r2 : World.cell? W4 ⟨w.heap.size + 1 + 1, 2, none⟩ = some (.slice none 0 0) := R4.cell 2
    have g2 := R4.frozen 2
    have r3 : World.cell? W4 ⟨w.heap.size + 1 + 1, 3, none⟩ = some (.int .i64 0) := R4.cell 3
    have g3 := R4.frozen 3
    have r4 : World.cell? W4 ⟨w.heap.size + 1 + 1, 4, none⟩ = some (.int .i64 0) := R4.cell 4
    have g4 := R4.frozen 4
    have r5 : World.cell? W4 ⟨w.heap.size + 1 + 1, 5, none⟩ = some (.string ⟨#[]⟩) := R4.cell 5
    have g5 := R4.frozen 5
    have r6 : World.cell? W4 ⟨w.heap.size + 1 + 1, 6, none⟩ = some (.slice none 0 0) := R4.cell 6
    have g6 := R4.frozen 6
    have r7 : World.cell? W4 ⟨w.heap.size + 1 + 1, 7, none⟩ = some (.slice none 0 0) := R4.cell 7
    have g7 := R4.frozen 7
    have hcon := ihL (w.heap.size + 1) d.A d.c d.l W4 hbk2 hmm (Ko.E_in in4).2 lB4 rn4 (by omega) q0
    go_wp2_with fail
    (with_reducible refine hcon.mono ?_)
    clear hcon
    rintro e v ⟨A5, c5, l5, rfl, he, hi, hp, hb⟩
    have zv := hb.size
    have O5 := O4.below hb (by omega)
    have R5 := R4.below hb (by omega)
    have b5 := b4.trans (hb.mono (by omega))
    have HE := Lib.hid he
    have HI := Lib.hid hi
    have HP := Lib.hid hp
    have in5 := Elem.In.below hin (b5.mono hB)
    clear he hi hp hb O4 F4 R4 b4 rn4 in4 a0 af0 r0 g0 a1 af1 r1 g1 a2 af2 r2 g2 a3 af3 r3 g3 a4 af4 r4 g4 a5 af5 r5 g5 a6 af6 r6 g6 a7 af7 r7 g7 q0
    have a0 : World.cell? v ⟨w.heap.size, 0, none⟩ = some (.int .i64 d.a.k) := O5.cell 0
    have af0 := O5.frozen 0
    have a1 : World.cell? v ⟨w.heap.size, 1, none⟩ = some (.int .i64 d.a.n) := O5.cell 1
    have af1 := O5.frozen 1
    have a2 : World.cell? v ⟨w.heap.size, 2, none⟩ = some (.slice d.a.sA d.a.s.length d.a.sC) := O5.cell 2
    have af2 := O5.frozen 2
    have a3 : World.cell? v ⟨w.heap.size, 3, none⟩ = some (.int .i64 d.a.d.k) := O5.cell 3
    have af3 := O5.frozen 3
    have a4 : World.cell? v ⟨w.heap.size, 4, none⟩ = some (.int .i64 d.a.d.n) := O5.cell 4
    have af4 := O5.frozen 4
    have a5 : World.cell? v ⟨w.heap.size, 5, none⟩ = some (.string d.a.d.t) := O5.cell 5
    have af5 := O5.frozen 5
    have a6 : World.cell? v ⟨w.heap.size, 6, none⟩ = some (.slice d.a.d.A d.a.d.l.length d.a.d.c) := O5.cell 6
    have af6 := O5.frozen 6
    have a7 : World.cell? v ⟨w.heap.size, 7, none⟩ = some (.slice d.A d.l.length d.c) := O5.cell 7
    have af7 := O5.frozen 7
    have r0 : World.cell? v ⟨w.heap.size + 1 + 1, 0, none⟩ = some (.int .i64 0) := R5.cell 0
    have g0 := R5.frozen 0
    have r1 : World.cell? v ⟨w.heap.size + 1 + 1, 1, none⟩ = some (.int .i64 0) := R5.cell 1
    have g1 := R5.frozen 1
    have r2 : World.cell? v ⟨w.heap.size + 1 + 1, 2, none⟩ = some (.slice none 0 0) := R5.cell 2
    have g2 := R5.frozen 2
    have r3 : World.cell? v ⟨w.heap.size + 1 + 1, 3, none⟩ = some (.int .i64 0) := R5.cell 3
    have g3 := R5.frozen 3
    have r4 : World.cell? v ⟨w.heap.size + 1 + 1, 4, none⟩ = some (.int .i64 0) := R5.cell 4
    have g4 := R5.frozen 4
    have r5 : World.cell? v ⟨w.heap.size + 1 + 1, 5, none⟩ = some (.string ⟨#[]⟩) := R5.cell 5
    have g5 := R5.frozen 5
    have r6 : World.cell? v ⟨w.heap.size + 1 + 1, 6, none⟩ = some (.slice none 0 0) := R5.cell 6
    have g6 := R5.frozen 6
    have r7 : World.cell? v ⟨w.heap.size + 1 + 1, 7, none⟩ = some (.slice none 0 0) := R5.cell 7
    have g7 := R5.frozen 7
    clear O5 R5
    go_wp2_with fail
    have HBK : ∀ k ∈ Ko.E.blks (Tr.mk d.a A5 c5 l5), k < B ∨ w.heap.size + 3 ≤ k := fun k hk => by
      rw [show Ko.E.blks (Tr.mk d.a A5 c5 l5) = Ko.H.blks d.a ++ Ko.E.lblks A5 l5 from Tr.blks_eq _ _ _ _, List.mem_append] at hk
      rcases hk with hk | hk
      · exact .inl (Ko.H.lt (Ko.E_in hin).1 k hk)
      · rcases HP.out k hk with h | h
        · exact .inl h
        · exact .inr (by omega)
    refine bodyPost_ret (v := .agg #[.int .i64 d.a.k, .int .i64 d.a.n, .slice d.a.sA d.a.s.length d.a.sC, .int .i64 d.a.d.k, .int .i64 d.a.d.n, .string d.a.d.t, .slice d.a.d.A d.a.d.l.length d.a.d.c, .slice A5 l5.length c5]) (by simp [results, Tryz.results73, go_sem, r0, r1, r2, r3, r4, r5, r6, r7]) rfl ⟨(Tr.mk d.a A5 c5 l5), rfl, ?_, ?_, fun k hk => ?_, ?_⟩
    · rw [HSU.out]
      simp only [Tr.er, HE.out]
    · have hI5 : Ko.E.In v v.heap.size (Tr.mk d.a A5 c5 l5) := Tr.in_iff.2 ⟨(Ko.E_in (Ko.E.more in5 (show B ≤ v.heap.size by omega))).1, HI.out⟩
      refine Ko.in_keep2 (g := w.heap.size) (g' := w.heap.size + 1 + 1) hI5 (by simp only [World.size_setCell]; exact Nat.le_refl _) (fun k hk hk2 => ?_) (fun k hk => ?_)
      · have e : ∀ (u : World) (j : Nat) (x : Value), (u.setCell ⟨w.heap.size + 1 + 1, j, none⟩ x).heap[k]? = u.heap[k]? := fun u j x => Below.heap_setCell _ _ _ _ (by simpa using hk2)
        have e' : ∀ (u : World) (j : Nat) (x : Value), (u.setCell ⟨w.heap.size, j, none⟩ x).heap[k]? = u.heap[k]? := fun u j x => Below.heap_setCell _ _ _ _ (by simpa using hk)
        simp only [e, e']
      · have := HBK k hk; omega
    · have := HBK k hk; omega
    · exact (((((((((b5.setCell (by simp <;> omega) _).setCell (by simp <;> omega) _).setCell (by simp <;> omega) _).setCell (by simp <;> omega) _).setCell (by simp <;> omega) _).setCell (by simp <;> omega) _).setCell (by simp <;> omega) _).setCell (by simp <;> omega) _).setCell (by simp <;> omega) _)
theorem replaced_any (M : Nat) (n : Int) (d y : Tr Ko) (B : Nat) (w : World) (hbk : d.bulk Ko.bulk ≤ 1500000) (hd : Ko.E.In w B d) (hB : B ≤ w.heap.size) (h : Rp M n y B w) :
    Calls Tryz.prog 73 #[Ko.val d, .map (some M)] w (RetIn B ((Tr.sub n y d).er Ko.er) w) := by
  have key : ∀ m, RepOk M n y B m := by
    intro m
    induction m with
    | zero => intro d w _ h; have := d.size_pos; omega
    | succ m ih => exact rep_step M n y B m (repL_step M n y B m (repC_step M n y B m ih))
  exact key d.size d w hbk (Nat.le_refl _) hd hB h
end Go.Proofs.YtnkdfphbglcnmaaGreat
