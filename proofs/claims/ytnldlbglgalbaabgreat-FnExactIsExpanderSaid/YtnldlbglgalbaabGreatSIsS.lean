/-
  Valid syntax objects: the model's l2Few, l2Nodes and IsSyntax.
-/
import Derived.Test.YtnldlbglgalbaabGreatSNode
import Derived.Test.YtnldlbglgalbaabGreatSCount
import Derived.Test.YtnldlbglgalbaabGreatIsD
namespace Go.Proofs.YtnldlbglgalbaabGreat
open Go.RowKit
namespace S
mutual
/-- All nodes are valid. -/
def valid : S → Bool | .mk k n t _ _ s _ _ l => sNodeOk k n t l.length s && validL l
def validL : List S → Bool | [] => true | d :: r => valid d && validL r
end
theorem validL_append (a b : List S) : validL (a ++ b) = (validL a && validL b) := by
  induction a with
  | nil => simp [validL]
  | cons d r ih => simp [validL, ih, Bool.and_assoc]
theorem valid_er (d : S) : valid (er d) = valid d := by
  induction d using ind with
  | h d ih =>
    cases d with
    | mk k n t sa sc s A c l =>
      have key : ∀ (a : List S), (∀ x ∈ a, x ∈ l) → validL (erL a) = validL a := by
        intro a
        induction a with
        | nil => intro _; rfl
        | cons x r ih2 =>
          intro hs
          simp only [validL, erL, ih x (hs x (by simp)), ih2 fun y hy => hs y (by simp [hy])]
      simp only [er, valid, key l (fun _ h => h), erL_length]
/-- A valid syntax object. -/
def isS (d : S) : Bool := decide (d.size ≤ 2000) && (decide (d.depth ≤ 40) && valid d)
theorem isS_of_er {d e : S} (h : er d = er e) : isS d = isS e := by
  unfold isS
  rw [size_of_er h, depth_of_er h, ← valid_er d, h, valid_er]
theorem depthL_le_size (l : List S) : depthL l ≤ sizeL l := by
  induction l with
  | nil => simp [depthL]
  | cons x r ih => have := depth_le_size x; simp only [depthL, sizeL]; omega
end S

set_option maxRecDepth 100000 in
set_option maxHeartbeats 2000000 in
theorem sfew_any : ∀ (m : Nat) (d : S) (B g : Nat) (w : World) (L : Int), d.size ≤ m → 0 ≤ L → L ≤ 1000000 → d.In w B → B ≤ g → g < w.heap.size → w.cell? ⟨g, 0, none⟩ = some (.int .i64 L) → w.frozen? ⟨g, 0, none⟩ = false →
    Calls Tryz.prog 66 #[d.val, .pointer (some ⟨g, 0, none⟩)] w fun e w' => e = .returned (.bool (decide (0 ≤ fewR d.size L))) ∧ Cnt B g w w' (fewR d.size L) := by
  intro m
  induction m with
  | zero => intro d B g w L h; have := d.size_pos; omega
  | succ m ih =>
  intro d B g w L hm hL0 hL1 hin hB hg hc hf
  obtain ⟨k, n, t, sa, sc, s, A, c, l⟩ := d
  have hcap := hin.cap
  simp only [S.l, S.c, S.t] at hcap
  simp only [S.val, S.k, S.n, S.t, S.sa, S.sc, S.s, S.A, S.l, S.c]
  have hmm : S.sizeL l ≤ m := by simp only [S.size] at hm; omega
  have hsz : (S.mk k n t sa sc s A c l).size = 1 + S.sizeL l := rfl
  have Hsz := Lib.hid hsz
  clear hsz hm
  go_enter Tryz.func66, Tryz.ntmps66
  go_wp2_with fail
  go_loopw [5] (fun i wr => ∃ j : Nat, j ≤ l.length ∧ i = .int .i64 j ∧ wr.cell? ⟨w.heap.size, 4, none⟩ = some (.slice A l.length c) ∧ w.heap.size < wr.heap.size ∧ Cnt B g w wr (fewR (1 + S.sizeL (l.take j)) L)) (fun i _ => l.length - (intOf i).toNat)
  case atStart =>
    have hx := (S.Box.new (w.setCell ⟨g, 0, none⟩ (.int .i64 (L - 1))) (.mk k n t sa sc s A c l) 43).c4
    rw [World.size_setCell] at hx
    refine ⟨0, Nat.zero_le _, rfl, hx, by simp, ?_, ?_, ?_⟩
    · rw [World.cell?_alloc_lt _ _ _ (by simpa using hg), icell_eq hc]
      congr 2
      by_cases h : (1 : Int) ≤ L
      · rw [few_yes (by simp [S.sizeL]; omega)]; simp [S.sizeL]
      · rw [few_no (by simp [S.sizeL]; omega)]; omega
    · rw [World.frozen?_alloc_old _ _ _ (by simp; omega), World.frozen?_setCell]; exact hf
    · exact ((Chg.refl _ _).setCell (.inl (by simp)) _).alloc _
  case round =>
    obtain ⟨j, hj, rfl, hbx, hbs, hcnt⟩ := hrel
    obtain ⟨hc1, hf1, hch⟩ := hcnt
    have hs2 := hch.size
    by_cases hlt : j < l.length
    · by_cases hv : ((1 + S.sizeL (l.take j) : Nat) : Int) ≤ L
      · rw [few_yes hv] at hc1
        have hv2 : (0 : Int) ≤ L - (1 + S.sizeL (l.take j) : Nat) := by omega
        have hin' := hin.below (hch.below (B := B) (by simp; omega) (by omega))
        obtain ⟨b, o, rfl, hblk, c0, c1, c2, c3, c4, hix⟩ := hin'.at_ (i := j) (x := l[j]) (List.getElem?_eq_getElem hlt)
        have hsz := S.sizeL_mem (l := l) (List.getElem_mem hlt)
        have HS : Hid (S.sizeL (l.take (j + 1)) = S.sizeL (l.take j) + l[j].size) := by
          rw [List.take_succ_eq_append_getElem hlt, S.sizeL_append]; simp [S.sizeL, Hid]
        go_wp2_with fail
        refine (ih l[j] B g _ _ (by omega) hv2 (by omega) hix hB (by omega) hc1 hf1).mono ?_
        rintro e w2 ⟨rfl, hcnt2⟩
        obtain ⟨hc2, hf2, hch2⟩ := hcnt2
        have hbx2 : w2.cell? ⟨w.heap.size, 4, none⟩ = some (.slice (some ⟨b, o, none⟩) l.length c) := (World.cell?_of_block (hch2.block w.heap.size hbs (by simp; omega))).trans hbx
        have hz2 := hch2.size
        have HC : Hid (fewR (1 + S.sizeL (l.take (j + 1))) L = fewR l[j].size (L - (1 + S.sizeL (l.take j) : Nat))) := by
          show _ = _
          rw [HS.out]
          by_cases h : ((l[j].size : Nat) : Int) ≤ L - (1 + S.sizeL (l.take j) : Nat)
          · rw [few_yes h, few_yes (by omega)]; omega
          · rw [few_no h, few_no (by omega)]
        have hch3 := hch.trans hch2
        clear hch hch2 hc1 hbx hv
        go_wp2_with fail
        go_roundw
        case rel => exact ⟨j + 1, by omega, by go_num, hbx2, by omega, by rw [HC.out]; exact hc2, hf2, hch3⟩
        case measure => simp [intOf]; omega
      · rw [few_no hv] at hc1
        go_wp2_with fail
        go_ret
        have h1 := S.sizeL_append (l.take j) (l.drop j)
        rw [List.take_append_drop] at h1
        have h2 : fewR (S.mk k n t sa sc s A c l).size L = -1 := few_no (by rw [Hsz.out]; omega)
        exact ⟨ret_bool (by rw [h2]; decide), by rw [h2]; exact ⟨hc1, hf1, hch⟩⟩
    · have e1 : l.take j = l := List.take_of_length_le (by omega)
      rw [e1, ← Hsz.out] at hc1
      clear e1
      by_cases hv : ((S.mk k n t sa sc s A c l).size : Int) ≤ L
      · have H2 := Lib.hid (few_yes hv)
        rw [H2.out] at hc1
        have hn : (0 : Int) ≤ L - (S.mk k n t sa sc s A c l).size := by omega
        go_wp2_with fail
        go_ret
        exact ⟨ret_bool (by rw [H2.out]; simp; omega), by rw [H2.out]; exact ⟨hc1, hf1, hch⟩⟩
      · have H2 := Lib.hid (few_no hv)
        rw [H2.out] at hc1
        go_wp2_with fail
        go_ret
        exact ⟨ret_bool (by rw [H2.out]; decide), by rw [H2.out]; exact ⟨hc1, hf1, hch⟩⟩

set_option maxRecDepth 100000 in
set_option maxHeartbeats 2000000 in
theorem snodes_any : ∀ (m : Nat) (d : S) (B : Nat) (w : World), d.size ≤ m → d.In w B → B ≤ w.heap.size →
    Calls Tryz.prog 68 #[d.val] w fun e w' => e = .returned (.bool d.valid) ∧ Below w.heap.size w w' := by
  intro m
  induction m with
  | zero => intro d B w h; have := d.size_pos; omega
  | succ m ih =>
  intro d B w hm hin hB
  obtain ⟨k, n, t, sa, sc, s, A, c, l⟩ := d
  have hcap := hin.cap
  have hsc := hin.scopes
  simp only [S.sa, S.sc, S.s] at hsc
  simp only [S.l, S.c, S.t] at hcap
  simp only [S.val, S.k, S.n, S.t, S.sa, S.sc, S.s, S.A, S.l, S.c]
  have hmm : S.sizeL l ≤ m := by simp only [S.size] at hm; omega
  have hv : (S.mk k n t sa sc s A c l).valid = (sNodeOk k n t l.length s && S.validL l) := rfl
  have Hv := Lib.hid hv
  clear hv hm
  go_enter Tryz.func68, Tryz.ntmps68
  go_wp2_with fail
  go_loopw [8] (fun i wr => ∃ j : Nat, j ≤ l.length ∧ i = .int .i64 j ∧ Hid (S.validL (l.take j) = true) ∧ Below (w.heap.size + 1) (w.alloc (.cells #[.int .i64 k, .int .i64 n, .string t, .slice sa s.length sc, .slice A l.length c] 43)) wr) (fun i _ => l.length - (intOf i).toNat)
  case atStart => exact ⟨0, Nat.zero_le _, rfl, by simp [Hid, S.validL], Below.refl _ _⟩
  case round =>
    obtain ⟨j, hj, rfl, HV, hbr⟩ := hrel
    have hs2 := hbr.size
    simp only [World.size_alloc] at hs2
    have hb0 : Below w.heap.size w wr := ((Below.refl _ _).alloc (Nat.le_refl _) _).trans (hbr.mono (by omega))
    by_cases hlt : j < l.length
    · obtain ⟨b, o, rfl, hblk, c0, c1, c2, c3, c4, hix⟩ := (hin.below (hb0.mono hB)).at_ (i := j) (x := l[j]) (List.getElem?_eq_getElem hlt)
      have hsz := S.sizeL_mem (l := l) (List.getElem_mem hlt)
      have hv1 := S.validL_append (l.take j) (l.drop j)
      rw [List.take_append_drop, List.drop_eq_getElem_cons hlt] at hv1
      simp only [S.validL] at hv1
      have Hv1 := Lib.hid hv1
      have HW : Hid (S.validL (l.take (j + 1)) = (S.validL (l.take j) && l[j].valid)) := by
        rw [List.take_succ_eq_append_getElem hlt, S.validL_append]; simp [S.validL, Hid]
      clear hv1
      go_wp2_with fail
      refine (ih l[j] B _ (by omega) (hix.alloc (by omega) _) (by simp; omega)).mono ?_
      rintro e w2 ⟨rfl, hb2⟩
      have hb3 := (hbr.alloc (by omega) (.cells #[.int .i64 l[j].k, .int .i64 l[j].n, .string l[j].t, .slice l[j].sa l[j].s.length l[j].sc, .slice l[j].A l[j].l.length l[j].c] 43)).trans (hb2.mono (by simp; omega))
      clear hb2
      cases hq : l[j].valid
      · have Hq := Lib.hid hq
        go_wp2_with fail
        go_ret
        exact ⟨ret_bool (by rw [Hv.out, Hv1.out, Hq.out]; simp), ((Below.refl _ _).alloc (Nat.le_refl _) _).trans (hb3.mono (by omega))⟩
      · have Hq := Lib.hid hq
        go_wp2_with fail
        go_roundw
        case rel => exact ⟨j + 1, by omega, by go_num, by (show _ = _); rw [HW.out, HV.out, Hq.out]; rfl, hb3⟩
        case measure => simp [intOf]; omega
    · have e1 : l.take j = l := List.take_of_length_le (by omega)
      have hv2 := HV.out
      rw [e1] at hv2
      have Hv2 := Lib.hid hv2
      obtain ⟨g0, g1, g2, g3, g4⟩ := S.Box.below (S.Box.new w (.mk k n t sa sc s A c l) 43) hbr (by omega)
      simp only [S.k, S.n, S.t, S.A, S.l, S.c] at g0 g1 g2 g3 g4
      clear e1 hv2
      go_wp2_with fail
      have HK : Hid (sNodeOk k n t l.length s = (nodeOk k n t l.length && (isSetI s && (decide (s.length = 0) || decide (k = 1))))) := rfl
      refine (specNode_any k n t l.length _ hcap.2.2).mono ?_
      rintro e w2 ⟨rfl, rfl⟩
      cases hq : nodeOk k n t l.length
      · have Hq := Lib.hid hq
        go_wp2_with fail
        go_ret
        exact ⟨ret_bool (by rw [Hv.out, Hv2.out, HK.out, Hq.out]; rfl), hb0⟩
      · have Hq := Lib.hid hq
        go_wp2_with fail
        refine (specIsSet_any sa sc s B _ (hsc.below (hb0.mono hB)) (by omega)).mono ?_
        rintro e w3 ⟨rfl, hb3⟩
        obtain ⟨u0, u1, u2, u3, u4⟩ := S.Box.below (⟨g0, g1, g2, g3, g4⟩ : S.Box wr w.heap.size (.mk k n t sa sc s A c l)) hb3 (by omega)
        simp only [S.k, S.n, S.t, S.sa, S.sc, S.s, S.A, S.l, S.c] at u0 u1 u2 u3 u4
        have hb4 := hb0.trans (hb3.mono (by omega))
        clear g0 g1 g2 g3 g4 hb3
        cases hs : isSetI s
        · have Hs := Lib.hid hs
          go_wp2_with fail
          go_ret
          exact ⟨ret_bool (by rw [Hv.out, Hv2.out, HK.out, Hq.out, Hs.out]; rfl), hb4⟩
        · have Hs := Lib.hid hs
          by_cases h0 : s.length = 0
          · have e0 : ((s.length : Int) == 0) = true := by simp [h0]
            have H0 := Lib.hid (decide_eq_true h0)
            clear h0
            go_wp2_with fail
            go_ret
            exact ⟨ret_bool (by rw [Hv.out, Hv2.out, HK.out, Hq.out, Hs.out, H0.out]; rfl), hb4⟩
          · have e0 : ((s.length : Int) == 0) = false := beq_eq_false_iff_ne.2 (by omega)
            have H0 := Lib.hid (decide_eq_false h0)
            clear h0
            by_cases h1 : k = 1
            · have e1 : (k == 1) = true := by simp [h1]
              have H1 := Lib.hid (decide_eq_true h1)
              clear h1
              go_wp2_with fail
              go_ret
              exact ⟨ret_bool (by rw [Hv.out, Hv2.out, HK.out, Hq.out, Hs.out, H0.out, H1.out]; rfl), hb4⟩
            · have e1 : (k == 1) = false := by simpa using h1
              have H1 := Lib.hid (decide_eq_false h1)
              clear h1
              go_wp2_with fail
              go_ret
              exact ⟨ret_bool (by rw [Hv.out, Hv2.out, HK.out, Hq.out, Hs.out, H0.out, H1.out]; rfl), hb4⟩

set_option maxRecDepth 100000 in
set_option maxHeartbeats 2000000 in
theorem specIsS_any (d : S) (B : Nat) (w : World) (hin : d.In w B) (hB : B ≤ w.heap.size) (hs : d.size ≤ 2000000) : Calls Tryz.prog 31 #[d.val] w fun e w' => e = .returned (.bool d.isS) ∧ Below w.heap.size w w' := by
  have K : Hid (d.isS = (decide (d.size ≤ 2000) && (decide (d.depth ≤ 40) && d.valid))) := rfl
  have x0 := S.Box.new w d 43
  have b2 : Below (w.heap.size + 1) (w.alloc (.cells #[.int .i64 d.k, .int .i64 d.n, .string d.t, .slice d.sa d.s.length d.sc, .slice d.A d.l.length d.c] 43)) ((w.alloc (.cells #[.int .i64 d.k, .int .i64 d.n, .string d.t, .slice d.sa d.s.length d.sc, .slice d.A d.l.length d.c] 43)).alloc (.cells #[.int .i64 2000] 3)) := (Below.refl _ _).alloc (by simp) _
  have x0 := x0.below b2 (by omega)
  have b0 : Below w.heap.size w ((w.alloc (.cells #[.int .i64 d.k, .int .i64 d.n, .string d.t, .slice d.sa d.s.length d.sc, .slice d.A d.l.length d.c] 43)).alloc (.cells #[.int .i64 2000] 3)) := ((Below.refl _ _).alloc (Nat.le_refl _) _).trans (b2.mono (by omega))
  unfold S.val
  go_enter Tryz.func31, Tryz.ntmps31
  go_wp2_with fail
  refine (sfew_any d.size d B (w.heap.size + 1) _ 2000 (Nat.le_refl _) (by omega) (by omega) (hin.below (b0.mono hB)) (by omega) (by simp) ?_ ?_).mono ?_
  · have := cell_of_row _ _ 0 _ _ _ (heap_alloc_new (w.alloc (.cells #[.int .i64 d.k, .int .i64 d.n, .string d.t, .slice d.sa d.s.length d.sc, .slice d.A d.l.length d.c] 43)) (.cells #[.int .i64 2000] 3))
    rw [World.size_alloc] at this
    exact this
  · have := (D.Blk.new (w.alloc (.cells #[.int .i64 d.k, .int .i64 d.n, .string d.t, .slice d.sa d.s.length d.sc, .slice d.A d.l.length d.c] 43)) 3 #[.int .i64 2000]).frozen 0
    rw [World.size_alloc] at this
    exact this
  rintro e w1 ⟨rfl, hcnt⟩
  obtain ⟨_, _, hch⟩ := hcnt
  have hz := hch.size
  simp only [World.size_alloc] at hz
  obtain ⟨g0, g1, g2, g3, g4⟩ := S.Box.chg x0 hch (by simp; omega) (by simp)
  have b1 : Below w.heap.size w w1 := b0.trans (hch.below (by simp) (by simp; omega))
  have i1 := hin.below (b1.mono hB)
  clear hch x0 b2 b0
  by_cases hd : d.size ≤ 2000
  · rw [few_yes (by omega)]
    have hpos : (0 : Int) ≤ 2000 - d.size := by omega
    have HD := Lib.hid hd
    clear hd
    go_wp2_with fail
    refine (specSDepth_any d.size d B _ (Nat.le_refl _) hs i1 (by omega)).mono ?_
    rintro e w2 ⟨rfl, hb2⟩
    obtain ⟨g0, g1, g2, g3, g4⟩ := S.Box.below (⟨g0, g1, g2, g3, g4⟩ : S.Box w1 w.heap.size d) hb2 (by omega)
    have hz2 := hb2.size
    have b3 := b1.trans (hb2.mono (by omega))
    have i2 := hin.below (b3.mono hB)
    clear hb2 b1
    by_cases h40 : (d.depth : Int) ≤ 40
    · have H40 : Hid (d.depth ≤ 40) := by show _ ≤ _; omega
      go_wp2_with fail
      refine (snodes_any d.size d B _ (Nat.le_refl _) i2 (by omega)).mono ?_
      rintro e w3 ⟨rfl, hb3⟩
      go_wp2_with fail
      go_ret
      exact ⟨ret_bool (by rw [K.out, decide_eq_true HD.out, decide_eq_true H40.out]; rfl), b3.trans (hb3.mono (by omega))⟩
    · have H40 : Hid (¬ d.depth ≤ 40) := by show ¬ _ ≤ _; omega
      go_wp2_with fail
      go_ret
      exact ⟨ret_bool (by rw [K.out, decide_eq_false H40.out]; simp), b3⟩
  · rw [few_no (by omega)]
    have HD := Lib.hid hd
    clear hd
    go_wp2_with fail
    go_ret
    exact ⟨ret_bool (by rw [K.out, decide_eq_false HD.out]; simp), b1⟩
end Go.Proofs.YtnldlbglgalbaabGreat
