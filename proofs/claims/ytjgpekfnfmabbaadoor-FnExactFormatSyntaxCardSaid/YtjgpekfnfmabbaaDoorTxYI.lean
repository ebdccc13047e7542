/-
  FormatSyntax: the program walked (written by gen/txs2.py).
-/
import Derived.Test.YtjgpekfnfmabbaaDoorTxY
import Derived.Test.YtjgpekfnfmabbaaDoorTxYS
import Derived.Test.YtjgpekfnfmabbaaDoorSFits
import Derived.Deep.RegionLaw
import Derived.Deep.AppendLies
namespace Go.Proofs.YtjgpekfnfmabbaaDoor
open Go.RowKit

def SxIOk (m : Nat) : Prop := ∀ (d : S) (B : Nat) (w : World), d.size ≤ m → d.valid = true → d.size ≤ 2000 → d.bulk ≤ 2000000 → d.In w B → B ≤ w.heap.size → Tab w →
    Calls Tryd.prog 40 #[d.val] w fun e w' => e = .returned (.string (baL (S.txt d))) ∧ Below w.heap.size w w'

set_option maxRecDepth 100000 in
set_option maxHeartbeats 4000000 in
theorem mapY_step (m : Nat) (ih : SxIOk m) (A : Option Addr) (c : Nat) (l : List S) (B : Nat) (w : World) (hm : S.sizeL l ≤ m) (hvl : S.validL l = true) (hs2k : S.sizeL l ≤ 2000) (hbk : S.bulkL l ≤ 2000000) (hin : (S.mk 0 0 ⟨#[]⟩ none 0 [] A c l).In w B) (hB : B ≤ w.heap.size) (hl0 : l ≠ []) (ht : Tab w) :
    Calls Tryd.prog 63 #[.slice A l.length c, .func (.func 40) #[] #[]] w fun e w' => e = .returned (.slice (some ⟨w.heap.size, 0, none⟩) l.length l.length) ∧ TRow w' w.heap.size l.length (l.map fun d => baL (S.txt d)) ∧ Below w.heap.size w w' := by
  have hcap := hin.cap
  simp only [S.l, S.c, S.t] at hcap
  have n0 : ((l.length : Int) == 0) = false := by
    have : 0 < l.length := List.length_pos_iff.2 hl0
    simp; omega
  obtain ⟨SS, hSS⟩ : ∃ SS, SS = l.map fun d => baL (S.txt d) := ⟨_, rfl⟩
  have hSl : SS.length = l.length := by rw [hSS, List.length_map]
  rw [← hSS]
  have HSS := Lib.hid hSS
  have HV : Hid (∀ j (h : j < l.length), l[j].valid = true) := fun j h => S.validL_at hvl h
  have HK : Hid (∀ j (h : j < l.length), l[j].bulk ≤ S.bulkL l) := fun j h => S.bulk_at h
  have HT := Lib.hid ht
  have hll := S.length_le_sizeL l
  clear hSS hvl hl0 ht
  obtain ⟨i0, hi0, hz0, hz1, hz2⟩ := info_parts infoT
  have hmk := fun W => run_make_rowN (P := Tryd.prog) 70 9 i0 _ Tryd.underlying70 hi0 hz0 .i64 .i64 l.length l.length (Nat.le_refl _) (by rw [hz2]; omega) (by omega) W
  rw [hz1] at hmk
  go_enter Tryd.func63, Tryd.ntmps63
  go_wp2_with fail
  go_loopw [6, 7, 16] (fun _ _ i wr => ∃ (j : Nat) (ds : List ByteArray), j ≤ l.length ∧ i = .int .i64 j ∧ Hid (ds = SS.take j) ∧ ds.length ≤ j ∧ j ≤ ds.length ∧ TRow wr w.heap.size l.length ds ∧ Below w.heap.size w wr) (fun _ _ i _ => l.length - (intOf i).toNat)
  case atStart => exact ⟨0, [], Nat.zero_le _, rfl, rfl, Nat.le_refl _, Nat.le_refl _, ⟨_, D.Blk.new _ _ _, by rw [size_madeCells], by simp⟩, (Below.refl _ _).alloc (Nat.le_refl _) _⟩
  case round =>
    obtain ⟨j, ds, hj, rfl, HD, hd1, hd2, hrow, hb⟩ := hrel
    have hs2 := hb.size
    by_cases hlt : j < l.length
    · obtain ⟨b, o, rfl, hblk, c0, c1, c2, c3, c4, hix⟩ := (hin.below (hb.mono hB)).at_ (i := j) (x := l[j]) (List.getElem?_eq_getElem hlt)
      have hsz := S.sizeL_mem (l := l) (List.getElem_mem hlt)
      have hbj := HK.out j hlt
      have hglt : w.heap.size < wr.heap.size := hrow.lt
      obtain ⟨W2, hW2⟩ : ∃ W2, W2 = wr.alloc (.cells #[.int .i64 l[j].k, .int .i64 l[j].n, .string l[j].t, .slice l[j].sa l[j].s.length l[j].sc, .slice l[j].A l[j].l.length l[j].c] 46) := ⟨_, rfl⟩
      have bA : Below wr.heap.size wr W2 := by rw [hW2]; exact (Below.refl _ _).alloc (Nat.le_refl _) _
      have z2 : W2.heap.size = wr.heap.size + 1 := by rw [hW2]; simp
      have y0 : S.Box W2 wr.heap.size l[j] := by rw [hW2]; exact S.Box.new wr l[j] _
      obtain ⟨d0, d1, d2, d3, d4⟩ := y0
      have hcon := ih l[j] B W2 (by omega) (HV.out j hlt) (by omega) (by omega) (hix.below (bA.mono (by omega))) (by omega) (HT.out.below (hb.trans (bA.mono hs2)) (Nat.le_refl _))
      unfold S.val at hcon
      go_wp2_with fail
      rw [← hW2]
      clear hW2
      (with_reducible refine hcon.mono ?_)
      clear hcon
      rintro e w1 ⟨rfl, hb1⟩
      have hb1 : Below wr.heap.size wr w1 := bA.trans (hb1.mono (by omega))
      have hrow1 := hrow.below hb1 hglt
      obtain ⟨u0, hc0⟩ := hrow1.old hlt
      have f0 := hrow1.frozen j
      have hst := hrow1.step (Nat.le_antisymm hd1 hd2) hlt (baL (S.txt l[j]))
      have HD2 : Hid (ds ++ [baL (S.txt l[j])] = SS.take (j + 1)) := by
        show _ = _
        rw [List.take_succ_eq_append_getElem (by omega), ← HD.out]
        congr 2
        have h := HSS.out
        subst h
        simp
      have Hst := Lib.hid hst
      clear hst hrow1 hrow d0 d1 d2 d3 d4
      go_wp2_with fail
      refine ⟨⟨j + 1, _, by omega, by go_num, HD2.out, by simp; omega, by simp; omega, Hst.out, ((hb.trans (hb1.mono hs2)).setCell (by simp) _)⟩, by simp [intOf]; omega⟩
    · have hj' : j = l.length := by omega
      subst hj'
      have hds : ds = SS := by rw [HD.out, List.take_of_length_le (by omega)]
      subst hds
      go_wp2_with fail
      go_ret
      exact ⟨rfl, hrow, hb⟩

set_option maxRecDepth 100000 in
set_option maxHeartbeats 4000000 in
theorem sxI_step (m : Nat) (ih : SxIOk m) : SxIOk (m + 1) := by
  intro d B w hm hv hs hbk hin hB ht
  have hlen := S.txt_len d hv
  obtain ⟨k, n, t, sa, sc, s, A, c, l⟩ := d
  have hmm : S.sizeL l ≤ m := by simp only [S.size] at hm; omega
  have hsl2 : S.sizeL l ≤ 2000 := by simp only [S.size] at hs; omega
  have hbl : S.bulkL l ≤ 2000000 := by simp only [S.bulk] at hbk; omega
  have hsl : s.length ≤ 2000000 := by simp only [S.bulk] at hbk; omega
  have hscap := hin.2.1.cap
  have hts : t.size ≤ maxLen := hin.1.2.2
  have hcap2 : c ≤ 9223372036854775807 := hin.1.2.1
  have htn : t.size ≤ 9223372036854775807 := hin.1.2.2
  have hlc : l.length ≤ c := hin.1.1
  simp only [S.valid, Bool.and_eq_true] at hv
  have hsc := S.node_scopes hv.1
  have hvl := hv.2
  obtain ⟨W, hW⟩ : ∃ W, W = w.alloc (.cells #[.int .i64 k, .int .i64 n, .string t, .slice sa s.length sc, .slice A l.length c] 46) := ⟨_, rfl⟩
  have zW : W.heap.size = w.heap.size + 1 := by rw [hW]; simp
  have bW : Below w.heap.size w W := by rw [hW]; exact (Below.refl _ _).alloc (Nat.le_refl _) _
  have X0 : S.Box W w.heap.size (.mk k n t sa sc s A c l) := by rw [hW]; exact S.Box.new w (.mk k n t sa sc s A c l) _
  obtain ⟨a0, a1, a2, a3, a4⟩ := X0
  simp only [S.k, S.n, S.t, S.sa, S.sc, S.s, S.A, S.c, S.l] at a0 a1 a2 a3 a4
  have inW := hin.below (bW.mono hB)
  have HT := Lib.hid (ht.below bW (Nat.le_refl _))
  clear ht
  obtain ⟨T, hT⟩ : ∃ T, T = baL (S.txt (.mk k n t sa sc s A c l)) := ⟨_, rfl⟩
  rw [← hT]
  have hTs : T.size ≤ 90000000 := by rw [hT, baL_size]; omega
  clear hlen
  simp only [S.val, S.k, S.n, S.t, S.sa, S.sc, S.s, S.A, S.c, S.l]
  by_cases e0 : k = 0
  · subst e0
    have hll := S.length_le_sizeL l
    obtain ⟨SS, hSS⟩ : ∃ SS, SS = l.map fun d => baL (S.txt d) := ⟨_, rfl⟩
    have hSl : SS.length = l.length := by rw [hSS, List.length_map]
    obtain ⟨J, hJ⟩ : ∃ J, J = baL (Lib.join (SS.map (·.data.toList)) [32]) := ⟨_, rfl⟩
    have hST : SS.map (·.data.toList) = S.txtL l := by
      rw [hSS, S.txtL_map, List.map_map]
      exact List.map_congr_left fun d _ => baL_list _
    have HE : Hid ((⟨#[40]⟩ : ByteArray) ++ J ++ (⟨#[41]⟩ : ByteArray) = T) := by
      show _ = _
      rw [hT, S.txt, if_pos rfl, hJ, hST]
      refine baL_of ?_
      rw [ba_app, ba_app, baL_list]
      rfl
    have hJs : J.size ≤ 90000000 := by
      have h := HE.out
      have h2 : ((⟨#[40]⟩ : ByteArray) ++ J ++ (⟨#[41]⟩ : ByteArray)).size = T.size := by rw [h]
      rw [ByteArray.size_append, ByteArray.size_append] at h2
      omega
    have hJl : (Lib.join (SS.map (·.data.toList)) [32]).length ≤ 90000000 := by rw [← baL_size, ← hJ]; exact hJs
    have HJ := Lib.hid hJ
    have HJl := Lib.hid hJl
    have HSS := Lib.hid hSS
    have HV : Hid (∀ j (h : j < l.length), l[j].valid = true) := fun j h => S.validL_at hvl h
    have HK : Hid (∀ j (h : j < l.length), l[j].bulk ≤ S.bulkL l) := fun j h => S.bulk_at h
    have hit : (S.mk 0 0 ⟨#[]⟩ none 0 [] A c l).In W B := S.in_itm inW
    by_cases hl0 : l = []
    · subst hl0
      have hJ0 : J = ⟨#[]⟩ := by
        have : SS = [] := List.length_eq_zero_iff.1 (by simpa using hSl)
        rw [HJ.out, this]
        rfl
      have HJ0 := Lib.hid hJ0
      have hjn := fun W' => Tryd.strings_Join_none none 0 ⟨#[32]⟩ W'
      have hmp : ∀ V : World, Calls Tryd.prog 63 #[.slice A 0 c, .func (.func 40) #[] #[]] V fun e w' => e = .returned (.slice none 0 0) ∧ w' = V := by
        intro V
        clear hW
        go_enter Tryd.func63, Tryd.ntmps63
        go_wp2_with fail
        go_ret
        exact ⟨rfl, rfl⟩
      simp only [List.length_nil] at a4 hW ⊢
      clear hT hJ0 hJ hSS hST hv hvl
      go_enter Tryd.func40, Tryd.ntmps40
      go_wp2_with fail
      rw [← hW]
      clear hW
      (with_reducible refine (hmp _).mono ?_)
      rintro e w1 ⟨rfl, hw1⟩
      obtain rfl := hw1.symm
      clear hmp
      go_wp2_with fail
      refine (hjn _).mono ?_
      rintro e w2 ⟨rfl, hw2⟩
      obtain rfl := hw2.symm
      go_wp2_with fail
      go_ret
      exact ⟨by rw [← HE.out, HJ0.out]; rfl, bW⟩
    have hmap := mapY_step m ih A c l B W hmm hvl hsl2 hbl hit (by omega) hl0 HT.out
    rw [← hSS] at hmap
    clear hT hJ hSS hST hv hvl hl0
    go_enter Tryd.func40, Tryd.ntmps40
    go_wp2_with fail
    rw [← hW]
    clear hW
    (with_reducible refine hmap.mono ?_)
    clear hmap
    rintro e w1 ⟨rfl, hrow, hb⟩
    have hs2 := hb.size
    rw [zW] at hrow
    obtain ⟨cs, h1, h2, h3⟩ := hrow
    have hcon : Calls Tryd.prog 55 #[.slice (some ⟨w.heap.size + 1, 0, none⟩) l.length l.length, .string ⟨#[32]⟩] w1 fun e w' => e = .returned (.string J) ∧ Below w1.heap.size w1 w' := by
      have h := Tryd.strings_Join (w.heap.size + 1) 0 l.length SS ⟨#[32]⟩ w1 (fun i x hx => by rw [Nat.zero_add, h1.cell]; exact h3 i x hx) h1.lt (by omega) (by omega) (by have := HJl.out; exact Nat.le_trans this (by decide))
      rw [hSl] at h
      rw [HJ.out]
      exact h
    clear h1 h2 h3
    go_wp2_with fail
    (with_reducible refine hcon.mono ?_)
    clear hcon
    rintro e w2 ⟨rfl, hb2⟩
    go_wp2_with fail
    go_ret
    exact ⟨by rw [← HE.out]; rfl, bW.trans ((hb.trans (hb2.mono hs2)).mono (by omega))⟩
  · obtain ⟨hlv, hl0⟩ := S.leaf_valid hv.1 e0
    have en : (k != 0) = true := by simpa using e0
    have HL0 := Lib.hid hl0
    clear hl0
    have HE : Hid (baL (D.txt (.mk k n t none 0 [])) ++ baL (scT s) = T) := by
      show _ = _
      rw [hT, S.txt, if_neg e0]
      refine baL_of ?_
      rw [ba_app, baL_list, baL_list]
    have g1 : (baL (D.txt (.mk k n t none 0 []))).size ≤ 90000000 := by
      have h := congrArg ByteArray.size HE.out
      rw [ByteArray.size_append] at h
      omega
    have g2 : (baL (scT s)).size ≤ 90000000 := by
      have h := congrArg ByteArray.size HE.out
      rw [ByteArray.size_append] at h
      omega
    have n1 : ¬ (9223372036854775807 < (baL (D.txt (.mk k n t none 0 []))).size + (baL (scT s)).size) := by omega
    have lw : w.heap.size < W.heap.size := by omega
    have p0 := a0
    have p1 := a1
    have p2 := a2
    have p3 := a3
    have p4 := a4
    clear hT hv hvl e0
    go_enter Tryd.func40, Tryd.ntmps40
    go_wp2_with fail
    rw [← hW]
    clear hW
    go_region_law (first
      | ((try go_simp); go_at_call 62; refine gen_worldS ?_; intro Wa hWa; have ha : Below W.heap.size W Wa := (by first | (rw [hWa]; exact Below.refl _ _) | (rw [hWa]; exact (Below.refl _ _).drew)); clear hWa; refine (node_any' k n t sa sc s A c l Wa).mono ?_; rintro e v1 ⟨rfl, hq1⟩; have hb1 : Below W.heap.size W v1 := ha.trans (hq1.mono ha.size); have z1 := hb1.size; have a0 := (hb1.cell (p := ⟨w.heap.size, 0, none⟩) lw).trans p0; have a1 := (hb1.cell (p := ⟨w.heap.size, 1, none⟩) lw).trans p1; have a2 := (hb1.cell (p := ⟨w.heap.size, 2, none⟩) lw).trans p2; have a3 := (hb1.cell (p := ⟨w.heap.size, 3, none⟩) lw).trans p3; have a4 := (hb1.cell (p := ⟨w.heap.size, 4, none⟩) lw).trans p4)
      | ((try go_simp); go_at_call 30; refine gen_worldS ?_; intro Wb hWb; have hb : Below v1.heap.size v1 Wb := (by first | (rw [hWb]; exact Below.refl _ _) | (rw [hWb]; exact (Below.refl _ _).drew)); clear hWb; have hcon := txI_any _ (D.mk k n t none 0 []) Wb.heap.size Wb (Nat.le_refl _) hlv (by simp [D.size, D.sizeL]) (leaf_in hts) (Nat.le_refl _) (HT.out.below (hb1.trans (hb.mono z1)) (Nat.le_refl _)); (first | (with_reducible refine hcon.mono ?_) | (simp only [D.val, D.k, D.n, D.t, D.A, D.l, D.c, S.val, S.k, S.n, S.t, S.sa, S.sc, S.s, S.A, S.c, S.l, List.length_nil] at hcon; with_reducible refine hcon.mono ?_)); clear hcon; rintro e v2 ⟨rfl, hq2⟩; have hb2 := (hb1.trans (hb.mono z1)).trans (hq2.mono (Nat.le_trans z1 hb.size)); have z2 := hb2.size; have a0 := (hb2.cell (p := ⟨w.heap.size, 0, none⟩) lw).trans p0; have a1 := (hb2.cell (p := ⟨w.heap.size, 1, none⟩) lw).trans p1; have a2 := (hb2.cell (p := ⟨w.heap.size, 2, none⟩) lw).trans p2; have a3 := (hb2.cell (p := ⟨w.heap.size, 3, none⟩) lw).trans p3; have a4 := (hb2.cell (p := ⟨w.heap.size, 4, none⟩) lw).trans p4)
      | ((try go_simp); go_at_call 47; refine gen_worldS ?_; intro Wc hWc; have hc : Below v2.heap.size v2 Wc := (by first | (rw [hWc]; exact Below.refl _ _) | (rw [hWc]; exact (Below.refl _ _).drew)); clear hWc; have hbc := hb2.trans (hc.mono z2); have zc := hbc.size; refine (implSc_any sa sc s B Wc (inW.below (hbc.mono (by omega))).2.1 (by omega) hsc hsl (HT.out.below hbc (Nat.le_refl _))).mono ?_; rintro e v3 ⟨rfl, hq3⟩; have hb3 := hbc.trans (hq3.mono zc); have a0 := (hb3.cell (p := ⟨w.heap.size, 0, none⟩) lw).trans p0; have a1 := (hb3.cell (p := ⟨w.heap.size, 1, none⟩) lw).trans p1; have a2 := (hb3.cell (p := ⟨w.heap.size, 2, none⟩) lw).trans p2; have a3 := (hb3.cell (p := ⟨w.heap.size, 3, none⟩) lw).trans p3; have a4 := (hb3.cell (p := ⟨w.heap.size, 4, none⟩) lw).trans p4)
      | fail)
    all_goals go_wp2_with fail
    all_goals go_ret
    all_goals exact ⟨by rw [← HE.out]; rfl, bW.trans (hb3.mono (by omega))⟩
theorem sxI_any : ∀ m, SxIOk m := by
  intro m
  induction m with
  | zero => intro d B w h; have := d.size_pos; omega
  | succ m ih => exact sxI_step m ih

set_option maxRecDepth 100000 in
set_option maxHeartbeats 2000000 in
theorem implFS_any (d : S) (B : Nat) (w : World) (hin : d.In w B) (hB : B ≤ w.heap.size) (hs : d.size ≤ 2000000) (hbk : d.bulk ≤ 2000000) (ht : Tab w) :
    Calls Tryd.prog 20 #[d.val] w fun e w' => e = .returned (.string (S.fmt d)) ∧ Below w.heap.size w w' := by
  obtain ⟨W, hW⟩ : ∃ W, W = w.alloc (.cells #[.int .i64 d.k, .int .i64 d.n, .string d.t, .slice d.sa d.s.length d.sc, .slice d.A d.l.length d.c] 46) := ⟨_, rfl⟩
  have zW : W.heap.size = w.heap.size + 1 := by rw [hW]; simp
  have bW : Below w.heap.size w W := by rw [hW]; exact (Below.refl _ _).alloc (Nat.le_refl _) _
  have X0 : S.Box W w.heap.size d := by rw [hW]; exact S.Box.new w d _
  have iW := hin.below (bW.mono hB)
  have hq := implIsS_any d B W iW (by omega)
  unfold S.val at hq ⊢
  have X0q := X0
  obtain ⟨a0, a1, a2, a3, a4⟩ := X0q
  go_enter Tryd.func20, Tryd.ntmps20
  go_wp2_with fail
  rw [← hW]
  clear hW a0 a1 a2 a3 a4
  (with_reducible refine hq.mono ?_)
  clear hq
  rintro e w1 ⟨rfl, hb1⟩
  have z1 := hb1.size
  have b1 := bW.trans (hb1.mono (by omega))
  obtain ⟨a0, a1, a2, a3, a4⟩ := X0.below hb1 (by omega)
  cases hv : d.isS
  · have HE : Hid (S.fmt d = ⟨#[]⟩) := by show _ = _; unfold S.fmt; rw [hv]; rfl
    clear hv
    go_wp2_with fail
    go_ret
    exact ⟨by rw [HE.out]; rfl, b1⟩
  · have HE : Hid (S.fmt d = baL (S.txt d)) := by show _ = _; unfold S.fmt; rw [hv]; rfl
    have hv2 := hv
    unfold S.isS at hv2
    simp only [Bool.and_eq_true, decide_eq_true_eq] at hv2
    have hvd := hv2.2.2
    have hsd := hv2.1
    have hc := sxI_any _ d B w1 (Nat.le_refl _) hvd (by omega) hbk (iW.below (hb1.mono (by omega))) (by omega) (ht.below b1 (Nat.le_refl _))
    unfold S.val at hc
    clear hv hv2 hvd
    go_wp2_with fail
    (with_reducible refine hc.mono ?_)
    clear hc
    rintro e w2 ⟨rfl, hb2⟩
    go_wp2_with fail
    go_ret
    exact ⟨by rw [HE.out]; rfl, b1.trans (hb2.mono (by omega))⟩
theorem implFS_c (d : S) {d0 : S} (B : Nat) (w : World) (he : d.er = d0.er) {T : ByteArray} (hT : T = S.fmt d0) (hin : d.In w B) (hB : B ≤ w.heap.size) (hs : d.size ≤ 2000000) (hbk : d.bulk ≤ 2000000) (ht : Tab w) :
    Calls Tryd.prog 20 #[d.val] w fun e w' => e = .returned (.string T) ∧ Below w.heap.size w w' := by
  rw [hT, ← S.fmt_er he]
  exact implFS_any d B w hin hB hs hbk ht
end Go.Proofs.YtjgpekfnfmabbaaDoor
