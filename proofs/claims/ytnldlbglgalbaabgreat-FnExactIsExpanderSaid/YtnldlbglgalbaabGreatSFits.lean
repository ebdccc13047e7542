/-
  Valid syntax objects: the program's fits and IsSyntax.
-/
import Derived.Test.YtnldlbglgalbaabGreatSIsS
namespace Go.Proofs.YtnldlbglgalbaabGreat
open Go.RowKit

def SFit (d : S) (L P : Int) : Prop := (d.size : Int) ≤ L ∧ (d.depth : Int) ≤ P ∧ d.valid = true
instance (d : S) (L P : Int) : Decidable (SFit d L P) := by unfold SFit; infer_instance

set_option maxRecDepth 100000 in
set_option maxHeartbeats 4000000 in
theorem fits_any : ∀ (m : Nat) (d : S) (B g : Nat) (w : World) (L P : Int), d.size ≤ m → 0 ≤ L → L ≤ 1000000 → 0 ≤ P → P ≤ 1000000 → d.In w B → B ≤ g → g < w.heap.size → w.cell? ⟨g, 0, none⟩ = some (.int .i64 L) → w.frozen? ⟨g, 0, none⟩ = false →
    Calls Tryz.prog 75 #[d.val, .pointer (some ⟨g, 0, none⟩), .int .i64 P] w fun e w' => e = .returned (.bool (decide (SFit d L P))) ∧ ∃ v, Cnt B g w w' v ∧ (SFit d L P → v = L - d.size) := by
  intro m
  induction m with
  | zero => intro d B g w L P h; have := d.size_pos; omega
  | succ m ih =>
  intro d B g w L P hm hL0 hL1 hP0 hP1 hin hB hg hc hf
  obtain ⟨k, n, t, sa, sc, s, A, c, l⟩ := d
  have hcap := hin.cap
  simp only [S.l, S.c, S.t] at hcap
  simp only [S.val, S.k, S.n, S.t, S.sa, S.sc, S.s, S.A, S.l, S.c]
  have hmm : S.sizeL l ≤ m := by simp only [S.size] at hm; omega
  have hsz : (S.mk k n t sa sc s A c l).size = 1 + S.sizeL l := rfl
  have hdp : (S.mk k n t sa sc s A c l).depth = S.depthL l + 1 := rfl
  have hvl : (S.mk k n t sa sc s A c l).valid = (sNodeOk k n t l.length s && S.validL l) := rfl
  have Hsz := Lib.hid hsz
  have Hdp := Lib.hid hdp
  have Hvl := Lib.hid hvl
  clear hsz hdp hvl hm
  have ha : ∀ o : Obj, (w.alloc o).cell? ⟨g, 0, none⟩ = some (.int .i64 L) := fun o => (World.cell?_alloc_lt _ _ _ hg).trans hc
  have hc' := ha (.cells #[.int .i64 k, .int .i64 n, .string t, .slice sa s.length sc, .slice A l.length c] 43)
  clear ha
  have hf' : (w.alloc (.cells #[.int .i64 k, .int .i64 n, .string t, .slice sa s.length sc, .slice A l.length c] 43)).frozen? ⟨g, 0, none⟩ = false := (World.frozen?_alloc_old w _ ⟨g, 0, none⟩ (by simp; omega)).trans hf
  have bA : Below w.heap.size w (w.alloc (.cells #[.int .i64 k, .int .i64 n, .string t, .slice sa s.length sc, .slice A l.length c] 43)) := (Below.refl _ _).alloc (Nat.le_refl _) _
  by_cases hL : L = 0
  · have hL' : (L == 0) = true := by simp [hL]
    have hno : ¬ SFit (.mk k n t sa sc s A c l) L P := fun h => by have := h.1; rw [Hsz.out] at this; omega
    have HN := Lib.hid hno
    clear hL hno
    go_enter Tryz.func75, Tryz.ntmps75
    go_wp2_with fail
    go_ret
    exact ⟨ret_bool (decide_eq_false HN.out).symm, L, ⟨hc', hf', Chg.of_below bA⟩, fun h => absurd h HN.out⟩
  have hL' : (L == 0) = false := by simpa using hL
  by_cases hP : P = 0
  · have hP' : (P == 0) = true := by simp [hP]
    have hno : ¬ SFit (.mk k n t sa sc s A c l) L P := fun h => by have := h.2.1; rw [Hdp.out] at this; omega
    have HN := Lib.hid hno
    clear hP hL hno
    go_enter Tryz.func75, Tryz.ntmps75
    go_wp2_with fail
    go_ret
    exact ⟨ret_bool (decide_eq_false HN.out).symm, L, ⟨hc', hf', Chg.of_below bA⟩, fun h => absurd h HN.out⟩
  have hP' : (P == 0) = false := by simpa using hP
  have hL2 : 1 ≤ L := by omega
  have hP2 : 1 ≤ P := by omega
  clear hL hP
  cases hk : sNodeOk k n t l.length s
  · have hno : ¬ SFit (.mk k n t sa sc s A c l) L P := fun h => by have := h.2.2; rw [Hvl.out, hk] at this; simp at this
    have HN := Lib.hid hno
    have Hk := Lib.hid hk
    clear hk hno
    go_enter Tryz.func75, Tryz.ntmps75
    go_wp2_with fail
    refine (validNode_any k n t sa sc s A c l B _ (hin.below (bA.mono (by omega))) (by simp; omega)).mono ?_
    rintro e w1 ⟨rfl, hb1⟩
    rw [Hk.out]
    have c1 := (hb1.cell (p := ⟨g, 0, none⟩) (show g < _ by simp; omega)).trans hc'
    have f1 := (hb1.frozen (p := ⟨g, 0, none⟩) (show g < _ by simp; omega)).trans hf'
    have bb := bA.trans (hb1.mono (by simp))
    clear hb1
    go_wp2_with fail
    go_ret
    exact ⟨ret_bool (decide_eq_false HN.out).symm, L, ⟨c1, f1, Chg.of_below bb⟩, fun h => absurd h HN.out⟩
  · have Hk := Lib.hid hk
    clear hk
    go_enter Tryz.func75, Tryz.ntmps75
    go_wp2_with fail
    refine (validNode_any k n t sa sc s A c l B _ (hin.below (bA.mono (by omega))) (by simp; omega)).mono ?_
    rintro e w1 ⟨rfl, hb1⟩
    rw [Hk.out]
    obtain ⟨g0, g1, g2, g3, g4⟩ := S.Box.below (S.Box.new w (.mk k n t sa sc s A c l) 43) hb1 (by simp)
    simp only [S.k, S.n, S.t, S.sa, S.sc, S.s, S.A, S.l, S.c] at g0 g1 g2 g3 g4
    have c1 := (hb1.cell (p := ⟨g, 0, none⟩) (show g < _ by simp; omega)).trans hc'
    have f1 := (hb1.frozen (p := ⟨g, 0, none⟩) (show g < _ by simp; omega)).trans hf'
    have z1 := hb1.size
    simp only [World.size_alloc] at z1
    have bb := bA.trans (hb1.mono (by simp))
    have ngw : g ≠ w.heap.size := by omega
    have g4' : (w1.setCell ⟨g, 0, none⟩ (.int .i64 (L - 1))).cell? ⟨w.heap.size, 4, none⟩ = some (.slice A l.length c) := (World.cell?_of_block (a := ⟨w.heap.size, 4, none⟩) (Below.heap_setCell _ _ _ _ (by simp; omega))).trans g4
    clear hb1 hc' hf' bA g0 g1 g2 g3
    go_wp2_with fail
    go_loopw [30] (fun i wr => ∃ j : Nat, j ≤ l.length ∧ i = .int .i64 j ∧ (1 : Int) + S.sizeL (l.take j) ≤ L ∧ (S.depthL (l.take j) : Int) ≤ P - 1 ∧ Hid (S.validL (l.take j) = true) ∧ Cnt B g w wr (L - 1 - S.sizeL (l.take j))) (fun i _ => l.length - (intOf i).toNat)
    case atStart => exact ⟨0, Nat.zero_le _, rfl, by simp [S.sizeL]; omega, by simp [S.depthL]; omega, by simp [Hid, S.validL], by simp only [List.take_zero, S.sizeL]; rw [show L - 1 - ((0 : Nat) : Int) = L - 1 by omega]; exact icell_eq c1, by rw [World.frozen?_setCell]; exact f1, (Chg.of_below bb).setCell (.inl (by simp)) _⟩
    case round =>
      obtain ⟨j, hj, rfl, hsl, hdl, HV, hcnt⟩ := hrel
      obtain ⟨hc1, hf1, hch⟩ := hcnt
      have hs2 := hch.size
      by_cases hlt : j < l.length
      · obtain ⟨b, o, rfl, hblk, c0, c1', c2, c3, c4, hix⟩ := (hin.below (hch.below (B := B) (by simp; omega) (by omega))).at_ (i := j) (x := l[j]) (List.getElem?_eq_getElem hlt)
        have hsz1 := S.sizeL_append (l.take j) (l.drop j)
        rw [List.take_append_drop, List.drop_eq_getElem_cons hlt] at hsz1
        simp only [S.sizeL] at hsz1
        have hsz2 : S.sizeL (l.take j) + l[j].size ≤ S.sizeL l := by omega
        have hdp1 := S.depthL_append (l.take j) (l.drop j)
        rw [List.take_append_drop, List.drop_eq_getElem_cons hlt] at hdp1
        simp only [S.depthL] at hdp1
        have hdp2 : l[j].depth ≤ S.depthL l := by omega
        have hv1 := S.validL_append (l.take j) (l.drop j)
        rw [List.take_append_drop, List.drop_eq_getElem_cons hlt] at hv1
        simp only [S.validL] at hv1
        have Hv1 := Lib.hid hv1
        have HS : Hid (S.sizeL (l.take (j + 1)) = S.sizeL (l.take j) + l[j].size) := by
          rw [List.take_succ_eq_append_getElem hlt, S.sizeL_append]; simp [S.sizeL, Hid]
        have HD : Hid (S.depthL (l.take (j + 1)) = max (S.depthL (l.take j)) l[j].depth) := by
          rw [List.take_succ_eq_append_getElem hlt, S.depthL_append]; simp [S.depthL, Hid]
        have HW : Hid (S.validL (l.take (j + 1)) = (S.validL (l.take j) && l[j].valid)) := by
          rw [List.take_succ_eq_append_getElem hlt, S.validL_append]; simp [S.validL, Hid]
        have hgr : g < wr.heap.size := by omega
        have e1 : (wr.alloc (.cells #[.int .i64 l[j].k, .int .i64 l[j].n, .string l[j].t, .slice l[j].sa l[j].s.length l[j].sc, .slice l[j].A l[j].l.length l[j].c] 43)).cell? ⟨g, 0, none⟩ = some (.int .i64 (L - 1 - S.sizeL (l.take j))) := (World.cell?_alloc_lt _ _ _ hgr).trans hc1
        have e2 : (wr.alloc (.cells #[.int .i64 l[j].k, .int .i64 l[j].n, .string l[j].t, .slice l[j].sa l[j].s.length l[j].sc, .slice l[j].A l[j].l.length l[j].c] 43)).frozen? ⟨g, 0, none⟩ = false := (World.frozen?_alloc_old wr _ ⟨g, 0, none⟩ (by simp; omega)).trans hf1
        clear hsz1 hdp1 hv1 g4'
        go_wp2_with fail
        refine (ih l[j] B g _ _ _ (by omega) (by omega) (by omega) (by omega) (by omega) (hix.alloc (by omega) _) hB (by simp; omega) e1 e2).mono ?_
        rintro e w2 ⟨rfl, v, ⟨hc2, hf2, hch2⟩, hv⟩
        have hch3 := (hch.alloc (.cells #[.int .i64 l[j].k, .int .i64 l[j].n, .string l[j].t, .slice l[j].sa l[j].s.length l[j].sc, .slice l[j].A l[j].l.length l[j].c] 43)).trans hch2
        clear hch2 e1 e2
        by_cases hok : SFit l[j] (L - 1 - S.sizeL (l.take j)) (P - 1)
        · rw [decide_eq_true hok]
          obtain rfl := hv hok
          obtain ⟨z1, z2, z3⟩ := hok
          have Z3 := Lib.hid z3
          clear z3 hv
          go_wp2_with fail
          go_roundw
          case rel => exact ⟨j + 1, by omega, by go_num, by rw [HS.out]; omega, by rw [HD.out]; omega, by (show _ = _); rw [HW.out, HV.out, Z3.out]; rfl, by rw [HS.out, show L - 1 - ((S.sizeL (l.take j) + l[j].size : Nat) : Int) = L - 1 - (S.sizeL (l.take j) : Int) - (l[j].size : Int) by omega]; exact hc2, hf2, hch3⟩
          case measure => simp [intOf]; omega
        · rw [decide_eq_false hok]
          have hno : ¬ SFit (.mk k n t sa sc s (some ⟨b, o, none⟩) c l) L P := fun h => by
            obtain ⟨q1, q2, q3⟩ := h
            rw [Hsz.out] at q1
            rw [Hdp.out] at q2
            refine hok ⟨by omega, by omega, ?_⟩
            rw [Hvl.out, Hv1.out] at q3
            simp only [Bool.and_eq_true] at q3
            exact q3.2.2.1
          have HN := Lib.hid hno
          clear hok hv hno
          go_wp2_with fail
          go_ret
          exact ⟨ret_bool (decide_eq_false HN.out).symm, v, ⟨hc2, hf2, hch3⟩, fun h => absurd h HN.out⟩
      · have e1 : l.take j = l := List.take_of_length_le (by omega)
        have hv := HV.out
        rw [e1] at hsl hdl hv hc1
        have hok : SFit (.mk k n t sa sc s A c l) L P := ⟨by rw [Hsz.out]; omega, by rw [Hdp.out]; omega, by rw [Hvl.out, Hk.out, hv]; rfl⟩
        have HO := Lib.hid hok
        clear hok hv e1
        go_wp2_with fail
        go_ret
        exact ⟨ret_bool (decide_eq_true HO.out).symm, _, ⟨hc1, hf1, hch⟩, fun _ => by rw [Hsz.out]; omega⟩

theorem sfit_isS (d : S) : decide (SFit d 2000 40) = d.isS := by
  have h1 : ((d.size : Int) ≤ 2000) ↔ d.size ≤ 2000 := by omega
  have h2 : ((d.depth : Int) ≤ 40) ↔ d.depth ≤ 40 := by omega
  rw [Bool.eq_iff_iff]
  simp [SFit, S.isS, h1, h2]

set_option maxHeartbeats 800000 in
theorem implIsS_any (d : S) (B : Nat) (w : World) (hin : d.In w B) (hB : B ≤ w.heap.size) : Calls Tryz.prog 80 #[d.val] w fun e w' => e = .returned (.bool d.isS) ∧ Below w.heap.size w w' := by
  have b2 : Below (w.heap.size + 1) (w.alloc (.cells #[.int .i64 d.k, .int .i64 d.n, .string d.t, .slice d.sa d.s.length d.sc, .slice d.A d.l.length d.c] 43)) ((w.alloc (.cells #[.int .i64 d.k, .int .i64 d.n, .string d.t, .slice d.sa d.s.length d.sc, .slice d.A d.l.length d.c] 43)).alloc (.cells #[.int .i64 2000] 3)) := (Below.refl _ _).alloc (by simp) _
  have b0 : Below w.heap.size w ((w.alloc (.cells #[.int .i64 d.k, .int .i64 d.n, .string d.t, .slice d.sa d.s.length d.sc, .slice d.A d.l.length d.c] 43)).alloc (.cells #[.int .i64 2000] 3)) := ((Below.refl _ _).alloc (Nat.le_refl _) _).trans (b2.mono (by omega))
  unfold S.val
  go_enter Tryz.func80, Tryz.ntmps80
  go_wp2_with fail
  refine (fits_any d.size d B (w.heap.size + 1) _ 2000 40 (Nat.le_refl _) (by omega) (by omega) (by omega) (by omega) (hin.below (b0.mono hB)) (by omega) (by simp) ?_ ?_).mono ?_
  · have := cell_of_row _ _ 0 _ _ _ (heap_alloc_new (w.alloc (.cells #[.int .i64 d.k, .int .i64 d.n, .string d.t, .slice d.sa d.s.length d.sc, .slice d.A d.l.length d.c] 43)) (.cells #[.int .i64 2000] 3))
    rw [World.size_alloc] at this
    exact this
  · have := (D.Blk.new (w.alloc (.cells #[.int .i64 d.k, .int .i64 d.n, .string d.t, .slice d.sa d.s.length d.sc, .slice d.A d.l.length d.c] 43)) 3 #[.int .i64 2000]).frozen 0
    rw [World.size_alloc] at this
    exact this
  rintro e w1 ⟨rfl, v, ⟨_, _, hch⟩, _⟩
  rw [sfit_isS]
  have hz := hch.size
  simp only [World.size_alloc] at hz
  have b1 : Below w.heap.size w w1 := b0.trans (hch.below (by simp) (by simp; omega))
  clear hch b2 b0
  go_wp2_with fail
  go_ret
  exact ⟨rfl, b1⟩
end Go.Proofs.YtnldlbglgalbaabGreat
