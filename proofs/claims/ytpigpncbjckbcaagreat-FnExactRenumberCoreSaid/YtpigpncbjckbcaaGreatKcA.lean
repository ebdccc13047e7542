/-
  The model's count of a term's nodes, and its depth.
-/
import Derived.Test.YtpigpncbjckbcaaGreatKoC
import Derived.Test.YtpigpncbjckbcaaGreatIsD
import Derived.Test.YtpigpncbjckbcaaGreatGMk
namespace Go.Proofs.YtpigpncbjckbcaaGreat
open Go.RowKit
set_option maxRecDepth 100000 in
set_option maxHeartbeats 2000000 in
theorem kfew_any : ∀ (m : Nat) (d : Tr Ko) (B g : Nat) (w : World) (L : Int), d.size ≤ m → 0 ≤ L → L ≤ 1000000 → Ko.E.In w B d → B ≤ g → g < w.heap.size → w.cell? ⟨g, 0, none⟩ = some (.int .i64 L) → w.frozen? ⟨g, 0, none⟩ = false →
    Calls Tryz.prog 166 #[Ko.val d, .pointer (some ⟨g, 0, none⟩)] w fun e w' => e = .returned (.bool (decide (0 ≤ fewR d.size L))) ∧ Cnt B g w w' (fewR d.size L) := by
  intro m
  induction m with
  | zero => intro d B g w L h; have := d.size_pos; omega
  | succ m ih =>
  intro d B g w L hm hL0 hL1 hin0 hB hg hc hf
  have hin := (Ko.E_in hin0).2
  have hcap := hin.cap
  have hsz := Tr.size_eq d
  have hmm : Tr.sizeL d.l ≤ m := by omega
  obtain ⟨A, hA0⟩ : ∃ A, A = d.A := ⟨_, rfl⟩
  obtain ⟨c, hc0⟩ : ∃ c, c = d.c := ⟨_, rfl⟩
  obtain ⟨l, hl0⟩ : ∃ l, l = d.l := ⟨_, rfl⟩
  unfold Ko.val
  rw [← hl0] at hsz hmm
  rw [← hA0, ← hc0, ← hl0] at hin
  rw [← hc0, ← hl0] at hcap
  rw [← hA0, ← hc0, ← hl0]
  have HA0 := Lib.hid hA0
  have HC0 := Lib.hid hc0
  have HL0 := Lib.hid hl0
  clear hA0 hc0 hl0
  have Hsz := Lib.hid hsz
  clear hsz hm
  go_enter Tryz.func166, Tryz.ntmps166
  go_wp2_with fail
  go_loopw [5] (fun i wr => ∃ j : Nat, j ≤ l.length ∧ i = .int .i64 j ∧ wr.cell? ⟨w.heap.size, 7, none⟩ = some (.slice A l.length c) ∧ w.heap.size < wr.heap.size ∧ Cnt B g w wr (fewR (1 + Tr.sizeL (l.take j)) L)) (fun i _ => l.length - (intOf i).toNat)
  case atStart =>
    have hx := (Ko.Box.new (w.setCell ⟨g, 0, none⟩ (.int .i64 (L - 1))) d 35).c7
    rw [← HA0.out, ← HC0.out, ← HL0.out] at hx
    rw [World.size_setCell] at hx
    refine ⟨0, Nat.zero_le _, rfl, hx, by simp, ?_, ?_, ?_⟩
    · rw [World.cell?_alloc_lt _ _ _ (by simpa using hg), icell_eq hc]
      congr 2
      by_cases h : (1 : Int) ≤ L
      · rw [few_yes (by simp [Tr.sizeL]; omega)]; simp [Tr.sizeL]
      · rw [few_no (by simp [Tr.sizeL]; omega)]; omega
    · rw [World.frozen?_alloc_old _ _ _ (by simp; omega), World.frozen?_setCell]; exact hf
    · exact ((Chg.refl _ _).setCell (.inl (by simp)) _).alloc _
  case round =>
    obtain ⟨j, hj, rfl, hbx, hbs, hcnt⟩ := hrel
    obtain ⟨hc1, hf1, hch⟩ := hcnt
    have hs2 := hch.size
    by_cases hlt : j < l.length
    · by_cases hv : ((1 + Tr.sizeL (l.take j) : Nat) : Int) ≤ L
      · rw [few_yes hv] at hc1
        have hv2 : (0 : Int) ≤ L - (1 + Tr.sizeL (l.take j) : Nat) := by omega
        have hin' := hin.below (hch.below (B := B) (by simp; omega) (by omega))
        obtain ⟨b, o, rfl, hblk, c0, c1, c2, c3, c4, c5, c6, c7, hix⟩ := Ko.at_ hin' (i := j) (x := l[j]) (List.getElem?_eq_getElem hlt)
        have hsz := Tr.sizeL_mem (l := l) (List.getElem_mem hlt)
        have HS : Hid (Tr.sizeL (l.take (j + 1)) = Tr.sizeL (l.take j) + (l[j]).size) := by
          rw [List.take_succ_eq_append_getElem hlt, Tr.sizeL_append]; simp [Tr.sizeL, Hid]
        go_wp2_with fail
        refine (ih l[j] B g _ _ (by omega) hv2 (by omega) hix hB (by omega) hc1 hf1).mono ?_
        rintro e w2 ⟨rfl, hcnt2⟩
        obtain ⟨hc2, hf2, hch2⟩ := hcnt2
        have hbx2 : w2.cell? ⟨w.heap.size, 7, none⟩ = some (.slice (some ⟨b, o, none⟩) l.length c) := (World.cell?_of_block (hch2.block w.heap.size hbs (by simp; omega))).trans hbx
        have hz2 := hch2.size
        have HC : Hid (fewR (1 + Tr.sizeL (l.take (j + 1))) L = fewR (l[j]).size (L - (1 + Tr.sizeL (l.take j) : Nat))) := by
          show _ = _
          rw [HS.out]
          by_cases h : (((l[j]).size : Nat) : Int) ≤ L - (1 + Tr.sizeL (l.take j) : Nat)
          · rw [few_yes h, few_yes (by omega)]; omega
          · rw [few_no h, few_no (by omega)]
        have hch3 := hch.trans hch2
        clear hch hch2 hc1 hbx hv
        go_wp2_with fail
        go_roundw
        case rel => exact ⟨j + 1, by omega, by go_num, hbx2, by omega, by rw [HC.out]; exact hc2, hf2, hch3⟩
        case measure => simp [intOf]; omega
      · rw [few_no hv] at hc1
        go_wp2_with fail
        go_ret
        have h1 := Tr.sizeL_append (l.take j) (l.drop j)
        rw [List.take_append_drop] at h1
        have h2 : fewR d.size L = -1 := few_no (by rw [Hsz.out]; omega)
        exact ⟨ret_bool (by rw [h2]; decide), by rw [h2]; exact ⟨hc1, hf1, hch⟩⟩
    · have e1 : l.take j = l := List.take_of_length_le (by omega)
      rw [e1, ← Hsz.out] at hc1
      clear e1
      by_cases hv : (d.size : Int) ≤ L
      · have H2 := Lib.hid (few_yes hv)
        rw [H2.out] at hc1
        have hn : (0 : Int) ≤ L - d.size := by omega
        go_wp2_with fail
        go_ret
        exact ⟨ret_bool (by rw [H2.out]; simp; omega), by rw [H2.out]; exact ⟨hc1, hf1, hch⟩⟩
      · have H2 := Lib.hid (few_no hv)
        rw [H2.out] at hc1
        go_wp2_with fail
        go_ret
        exact ⟨ret_bool (by rw [H2.out]; decide), by rw [H2.out]; exact ⟨hc1, hf1, hch⟩⟩
set_option maxRecDepth 100000 in
theorem kSmall_any (d : Tr Ko) (B : Nat) (w : World) (hin : Ko.E.In w B d) (hB : B ≤ w.heap.size) : Calls Tryz.prog 95 #[Ko.val d] w fun e w' => e = .returned (.bool (decide (d.size ≤ 3000))) ∧ Below w.heap.size w w' := by
  obtain ⟨W, hW⟩ : ∃ W, W = w.alloc (.cells #[.int .i64 d.a.k, .int .i64 d.a.n, .slice d.a.sA d.a.s.length d.a.sC, .int .i64 d.a.d.k, .int .i64 d.a.d.n, .string d.a.d.t, .slice d.a.d.A d.a.d.l.length d.a.d.c, .slice d.A d.l.length d.c] 35) := ⟨_, rfl⟩
  obtain ⟨W2, hW2⟩ : ∃ W2, W2 = W.alloc (.cells #[.int .i64 3000] 3) := ⟨_, rfl⟩
  have zW : W.heap.size = w.heap.size + 1 := by rw [hW]; simp
  have zW2 : W2.heap.size = w.heap.size + 2 := by rw [hW2]; simp [zW]
  have b1 : Below w.heap.size w W := by rw [hW]; exact (Below.refl _ _).alloc (Nat.le_refl _) _
  have b2 : Below w.heap.size w W2 := by rw [hW2]; exact b1.alloc (by omega) _
  have hin2 : Ko.E.In W2 B d := Elem.In.below hin (b2.mono hB)
  have bk : D.Blk W2 (w.heap.size + 1) 3 #[.int .i64 3000] := by rw [hW2, ← zW]; exact D.Blk.new _ _ _
  have c0 := bk.cell 0
  have f0 := bk.frozen 0
  unfold Ko.val
  go_enter Tryz.func95, Tryz.ntmps95
  go_wp2_with fail
  rw [← hW, ← hW2]
  clear hW hW2
  refine (kfew_any d.size d B (w.heap.size + 1) W2 3000 (Nat.le_refl _) (by omega) (by omega) hin2 (by omega) (by omega) c0 f0).mono ?_
  rintro e w1 ⟨rfl, hcnt⟩
  have hb : Below w.heap.size w w1 := b2.trans (hcnt.chg.below (by simp) (by omega))
  clear c0 f0 bk hcnt
  go_wp2_with fail
  go_ret
  refine ⟨ret_bool ?_, hb⟩
  by_cases h : (d.size : Int) ≤ 3000
  · rw [few_yes h]; simp; omega
  · rw [few_no h]; simp; omega
end Go.Proofs.YtpigpncbjckbcaaGreat
