/-
  FormatSyntax: the model walked (written by gen/txs2.py).
-/
import Derived.Test.YtjgpekfnfmabbaaDoorTxY
import Derived.Test.YtjgpekfnfmabbaaDoorStrG
import Derived.Deep.RegionLaw
import Derived.Deep.AppendLies
namespace Go.Proofs.YtjgpekfnfmabbaaDoor
open Go.RowKit

theorem gen_worldS {P : Program} {f : FuncId} {args : Array Value} {W : World} {Q : Ending → World → Prop} (h : ∀ W', W' = W → Calls P f args W' Q) : Calls P f args W Q := h W rfl
theorem leaf_in {k n : Int} {t : ByteArray} {w : World} {B : Nat} (h : t.size ≤ maxLen) : (D.mk k n t none 0 []).In w B := ⟨⟨Nat.zero_le _, by unfold maxLen; omega, h⟩, fun hne => absurd rfl hne, trivial⟩
theorem S.in_itm {k n : Int} {t : ByteArray} {sa : Option Addr} {sc : Nat} {s : List Int} {A : Option Addr} {c : Nat} {l : List S} {w : World} {B : Nat} (h : (S.mk k n t sa sc s A c l).In w B) : (S.mk 0 0 ⟨#[]⟩ none 0 [] A c l).In w B :=
  ⟨⟨h.1.1, h.1.2.1, by show (0 : Nat) ≤ _; omega⟩, IIn.nil_ (by omega) (fun _ => rfl), h.2.2.1, h.2.2.2⟩
theorem dd_eq {k n : Int} {t : ByteArray} {sa : Option Addr} {sc : Nat} {s : List Int} {A : Option Addr} {c : Nat} {l : List S} {dd : D} (h : dd.er = datD (.mk k n t sa sc s A c l)) (hl : l.length = 0) : dd.er = (D.mk k n t none 0 []).er := by
  have e : l = [] := List.length_eq_zero_iff.1 hl
  subst e
  rw [h]
  rfl
theorem dd_valid {k n : Int} {t : ByteArray} {sa : Option Addr} {sc : Nat} {s : List Int} {A : Option Addr} {c : Nat} {l : List S} {dd : D} (h : dd.er = datD (.mk k n t sa sc s A c l)) (hv : (D.mk k n t none 0 []).valid = true) (hl : l.length = 0) : dd.valid = true := by
  rw [← D.valid_er, dd_eq h hl, D.valid_er]; exact hv
theorem dd_size {k n : Int} {t : ByteArray} {sa : Option Addr} {sc : Nat} {s : List Int} {A : Option Addr} {c : Nat} {l : List S} {dd : D} (h : dd.er = datD (.mk k n t sa sc s A c l)) (hl : l.length = 0) : dd.size ≤ 2000 := by
  rw [D.size_of_er (dd_eq h hl)]; simp [D.size, D.sizeL]
theorem dd_txt {k n : Int} {t : ByteArray} {sa : Option Addr} {sc : Nat} {s : List Int} {A : Option Addr} {c : Nat} {l : List S} {dd : D} (h : dd.er = datD (.mk k n t sa sc s A c l)) (hl : l.length = 0) : D.txt dd = D.txt (D.mk k n t none 0 []) := D.txt_of_er (dd_eq h hl)

def SxSOk (m : Nat) : Prop := ∀ (d : S) (B : Nat) (w : World), d.size ≤ m → d.valid = true → d.size ≤ 2000 → d.bulk ≤ 2000000 → d.In w B → B ≤ w.heap.size →
    Calls Tryd.prog 36 #[d.val] w fun e w' => e = .returned (.string (baL (S.txt d))) ∧ Below w.heap.size w w'

set_option maxRecDepth 100000 in
set_option maxHeartbeats 4000000 in
theorem sxS_step (m : Nat) (ih : SxSOk m) : SxSOk (m + 1) := by
  intro d B w hm hv hs hbk hin hB
  have hlen := S.txt_len d hv
  obtain ⟨k, n, t, sa, sc, s, A, c, l⟩ := d
  have hmm : S.sizeL l ≤ m := by simp only [S.size] at hm; omega
  have hsl2 : S.sizeL l ≤ 2000 := by simp only [S.size] at hs; omega
  have hbl : S.bulkL l ≤ 2000000 := by simp only [S.bulk] at hbk; omega
  have hsl : s.length ≤ 2000000 := by simp only [S.bulk] at hbk; omega
  have hscap := hin.2.1.cap
  have hts : t.size ≤ maxLen := hin.1.2.2
  have hcap2 : c ≤ 9223372036854775807 := hin.1.2.1
  have htn : t.size ≤ 9223372036854775807 := hin.1.2.2
  have hlc : l.length ≤ c := hin.1.1
  simp only [S.valid, Bool.and_eq_true] at hv
  have hsc := S.node_scopes hv.1
  have hvl := hv.2
  obtain ⟨W, hW⟩ : ∃ W, W = w.alloc (.cells #[.int .i64 k, .int .i64 n, .string t, .slice sa s.length sc, .slice A l.length c] 46) := ⟨_, rfl⟩
  have zW : W.heap.size = w.heap.size + 1 := by rw [hW]; simp
  have bW : Below w.heap.size w W := by rw [hW]; exact (Below.refl _ _).alloc (Nat.le_refl _) _
  have X0 : S.Box W w.heap.size (.mk k n t sa sc s A c l) := by rw [hW]; exact S.Box.new w (.mk k n t sa sc s A c l) _
  obtain ⟨a0, a1, a2, a3, a4⟩ := X0
  simp only [S.k, S.n, S.t, S.sa, S.sc, S.s, S.A, S.c, S.l] at a0 a1 a2 a3 a4
  have inW := hin.below (bW.mono hB)
  obtain ⟨T, hT⟩ : ∃ T, T = baL (S.txt (.mk k n t sa sc s A c l)) := ⟨_, rfl⟩
  rw [← hT]
  have hTs : T.size ≤ 90000000 := by rw [hT, baL_size]; omega
  clear hlen
  simp only [S.val, S.k, S.n, S.t, S.sa, S.sc, S.s, S.A, S.c, S.l]
  by_cases e0 : k = 0
  · subst e0
    have hll := S.length_le_sizeL l
    obtain ⟨SS, hSS⟩ : ∃ SS, SS = l.map fun d => baL (S.txt d) := ⟨_, rfl⟩
    have hSl : SS.length = l.length := by rw [hSS, List.length_map]
    obtain ⟨J, hJ⟩ : ∃ J, J = baL (Lib.join (SS.map (·.data.toList)) [32]) := ⟨_, rfl⟩
    have hST : SS.map (·.data.toList) = S.txtL l := by
      rw [hSS, S.txtL_map, List.map_map]
      exact List.map_congr_left fun d _ => baL_list _
    have HE : Hid ((⟨#[40]⟩ : ByteArray) ++ J ++ (⟨#[41]⟩ : ByteArray) = T) := by
      show _ = _
      rw [hT, S.txt, if_pos rfl, hJ, hST]
      refine baL_of ?_
      rw [ba_app, ba_app, baL_list]
      rfl
    have hJs : J.size ≤ 90000000 := by
      have h := HE.out
      have h2 : ((⟨#[40]⟩ : ByteArray) ++ J ++ (⟨#[41]⟩ : ByteArray)).size = T.size := by rw [h]
      rw [ByteArray.size_append, ByteArray.size_append] at h2
      omega
    have hJl : (Lib.join (SS.map (·.data.toList)) [32]).length ≤ 90000000 := by rw [← baL_size, ← hJ]; exact hJs
    have HJ := Lib.hid hJ
    have HJl := Lib.hid hJl
    have HSS := Lib.hid hSS
    have HV : Hid (∀ j (h : j < l.length), l[j].valid = true) := fun j h => S.validL_at hvl h
    have HK : Hid (∀ j (h : j < l.length), l[j].bulk ≤ S.bulkL l) := fun j h => S.bulk_at h
    clear hT hJ hJl hSS hST hv hvl
    obtain ⟨i0, hi, hz0, hz1, hz2⟩ := info_parts infoT
    have r0 : (W.alloc (.cells #[] 9)).ownsRow W.heap.size 9 1 (.slice (some ⟨W.heap.size, 0, none⟩) 0 0) ([] : List ByteArray).length (([] : List ByteArray).map Value.string) := World.ownsRow_made W #[] 0 (Nat.le_refl _) (by unfold maxLen; omega) (by simp)
    rw [zW] at r0
    have R0 := Lib.hid r0
    clear r0
    go_enter Tryd.func36, Tryd.ntmps36
    go_wp2_with fail
    rw [← hW]
    clear hW
    go_loopw [3, 5, 20] (fun q _ i wr => ∃ (j : Nat) (ds : List ByteArray), j ≤ l.length ∧ i = .int .i64 j ∧ Hid (ds = SS.take j) ∧ ds.length ≤ j ∧ j ≤ ds.length ∧ wr.ownsRow (w.heap.size + 1) 9 1 q ds.length (ds.map Value.string) ∧ Below (w.heap.size + 1) W wr) (fun _ _ i _ => l.length - (intOf i).toNat)
    case atStart => exact ⟨0, [], Nat.zero_le _, rfl, rfl, Nat.le_refl _, Nat.le_refl _, R0.out, (Below.refl _ _).alloc (by omega) _⟩
    case round =>
      obtain ⟨j, ds, hj, rfl, HD, hd1, hd2, hrow, hb⟩ := hrel
      have hs2 := hb.size
      obtain ⟨Av, cv, rfl, hov⟩ := town_of_row hrow
      have hcapv := hov.inn.cap
      by_cases hlt : j < l.length
      · obtain ⟨b, o, rfl, hblk, c0, c1, c2, c3, c4, hix⟩ := (inW.below (hb.mono (by omega))).at_ (i := j) (x := l[j]) (List.getElem?_eq_getElem hlt)
        have hsz := S.sizeL_mem (l := l) (List.getElem_mem hlt)
        have hbj := HK.out j hlt
        go_wp2_with fail
        refine (ih l[j] B _ (by omega) (HV.out j hlt) (by omega) (by omega) (hix.alloc (by omega) _) (by simp; omega)).mono ?_
        rintro e w1 ⟨rfl, hb1⟩
        have hb1 : Below wr.heap.size wr w1 := ((Below.refl _ _).alloc (Nat.le_refl _) _).trans (hb1.mono (by simp))
        have hs1 := hb1.size
        have hrow1 := srow_below hrow hb1
        have hb2 : Below (w.heap.size + 1) W w1 := hb.trans (hb1.mono (by omega))
        have HD2 : Hid (ds ++ [baL (S.txt l[j])] = SS.take (j + 1)) := by
          show _ = _
          rw [List.take_succ_eq_append_getElem (by omega), ← HD.out]
          congr 2
          have h := HSS.out
          subst h
          simp
        clear hb1 hrow hb
        go_wp2_with (at_builtin; refine wpList_append_lies _ rfl (.tmp 24) (.tmp 27) 70 rfl (w.heap.size + 1) 9 i0 (.string ⟨#[]⟩) 1 16 Tryd.underlying70 hi hz0 hz1 hz2 rfl (by decide) _ ds.length (ds.map Value.string) rfl (hrow1.alloc _) ⟨w1.heap.size, 0, none⟩ 1 1 [.string (baL (S.txt l[j]))] rfl rfl ?c1 (tone _) (by omega) (by unfold maxLen; omega) (by omega) (by simp; omega) (w1.heap.size + 1) ?c2 ?_)
        case c1 => exact tnews w1 (baL (S.txt l[j]))
        case c2 => simp
        intro g cap w2 hown' hgr hat hlt'
        obtain ⟨hS1, hS2, hS3⟩ := tgrow hb2 (by omega) hrow1 hown' hgr
        have HS1 := Lib.hid hS1
        clear hown' hgr hat hrow1 hov hb2 hS1
        go_wp2_with fail
        go_roundw
        case rel => exact ⟨j + 1, _, by omega, by go_num, HD2.out, by simp; omega, by simp; omega, by have h := HS1.out; first | exact h | simpa using h, hS2⟩
        case measure => simp [intOf]; omega
      · have hj' : j = l.length := by omega
        subst hj'
        have hds : ds = SS := by rw [HD.out, List.take_of_length_le (by omega)]
        subst hds
        have hcon : Calls Tryd.prog 53 #[.slice Av l.length cv, .string ⟨#[32]⟩] wr fun e w' => e = .returned (.string J) ∧ Below wr.heap.size wr w' := by
          have h := joinB_any Av cv ds ⟨#[32]⟩ wr.heap.size wr hov.inn (Nat.le_refl _) (by decide) (by have := HJl.out; exact Nat.le_trans this (by decide)) (by omega)
          rw [hSl] at h
          rw [HJ.out]
          exact h
        clear HD hrow hov
        go_wp2_with fail
        (with_reducible refine hcon.mono ?_)
        rintro e w1 ⟨rfl, hb1⟩
        clear hcon
        go_wp2_with fail
        go_ret
        exact ⟨by rw [← HE.out]; rfl, bW.trans ((hb.trans (hb1.mono (by omega))).mono (by omega))⟩
  · obtain ⟨hlv, hl0⟩ := S.leaf_valid hv.1 e0
    have en : (k != 0) = true := by simpa using e0
    have HL0 := Lib.hid hl0
    clear hl0
    have HE : Hid (baL (D.txt (.mk k n t none 0 [])) ++ baL (scT s) = T) := by
      show _ = _
      rw [hT, S.txt, if_neg e0]
      refine baL_of ?_
      rw [ba_app, baL_list, baL_list]
    have g1 : (baL (D.txt (.mk k n t none 0 []))).size ≤ 90000000 := by
      have h := congrArg ByteArray.size HE.out
      rw [ByteArray.size_append] at h
      omega
    have g2 : (baL (scT s)).size ≤ 90000000 := by
      have h := congrArg ByteArray.size HE.out
      rw [ByteArray.size_append] at h
      omega
    have n1 : ¬ (9223372036854775807 < (baL (D.txt (.mk k n t none 0 []))).size + (baL (scT s)).size) := by omega
    have lw : w.heap.size < W.heap.size := by omega
    have p0 := a0
    have p1 := a1
    have p2 := a2
    have p3 := a3
    have p4 := a4
    clear hT hv hvl e0
    go_enter Tryd.func36, Tryd.ntmps36
    go_wp2_with fail
    rw [← hW]
    clear hW
    go_region_law (first
      | ((try go_simp); go_at_call 60; refine gen_worldS ?_; intro Wa hWa; have ha : Below W.heap.size W Wa := (by first | (rw [hWa]; exact Below.refl _ _) | (rw [hWa]; exact (Below.refl _ _).drew)); clear hWa; have hcon := specDat_any 2000000 (.mk k n t sa sc s A c l) B Wa (by omega) (Nat.le_refl _) (inW.below (ha.mono (by omega))) (by have := ha.size; omega); (first | (with_reducible refine hcon.mono ?_) | (simp only [D.val, D.k, D.n, D.t, D.A, D.l, D.c, S.val, S.k, S.n, S.t, S.sa, S.sc, S.s, S.A, S.c, S.l, List.length_nil] at hcon; with_reducible refine hcon.mono ?_)); clear hcon; rintro e v1 ⟨dd, rfl, hde, hod, hq1⟩; have hb1 : Below W.heap.size W v1 := ha.trans (hq1.mono ha.size); have z1 := hb1.size; have HDE := Lib.hid hde; clear hde; have a0 := (hb1.cell (p := ⟨w.heap.size, 0, none⟩) lw).trans p0; have a1 := (hb1.cell (p := ⟨w.heap.size, 1, none⟩) lw).trans p1; have a2 := (hb1.cell (p := ⟨w.heap.size, 2, none⟩) lw).trans p2; have a3 := (hb1.cell (p := ⟨w.heap.size, 3, none⟩) lw).trans p3; have a4 := (hb1.cell (p := ⟨w.heap.size, 4, none⟩) lw).trans p4)
      | ((try go_simp); go_at_call 28; refine gen_worldS ?_; intro Wb hWb; have hb : Below v1.heap.size v1 Wb := (by first | (rw [hWb]; exact Below.refl _ _) | (rw [hWb]; exact (Below.refl _ _).drew)); clear hWb; have hcon := txS_any _ dd v1.heap.size Wb (Nat.le_refl _) (dd_valid HDE.out hlv HL0.out) (dd_size HDE.out HL0.out) (hod.inn.below hb) hb.size; rw [dd_txt HDE.out HL0.out] at hcon; (first | (with_reducible refine hcon.mono ?_) | (unfold D.val at hcon; with_reducible refine hcon.mono ?_)); clear hcon; rintro e v2 ⟨rfl, hq2⟩; have hb2 := (hb1.trans (hb.mono z1)).trans (hq2.mono (Nat.le_trans z1 hb.size)); have z2 := hb2.size; have a0 := (hb2.cell (p := ⟨w.heap.size, 0, none⟩) lw).trans p0; have a1 := (hb2.cell (p := ⟨w.heap.size, 1, none⟩) lw).trans p1; have a2 := (hb2.cell (p := ⟨w.heap.size, 2, none⟩) lw).trans p2; have a3 := (hb2.cell (p := ⟨w.heap.size, 3, none⟩) lw).trans p3; have a4 := (hb2.cell (p := ⟨w.heap.size, 4, none⟩) lw).trans p4)
      | ((try go_simp); go_at_call 44; refine gen_worldS ?_; intro Wc hWc; have hc : Below v2.heap.size v2 Wc := (by first | (rw [hWc]; exact Below.refl _ _) | (rw [hWc]; exact (Below.refl _ _).drew)); clear hWc; have hbc := hb2.trans (hc.mono z2); have zc := hbc.size; refine (specSc_any sa sc s B Wc (inW.below (hbc.mono (by omega))).2.1 (by omega) hsc hsl).mono ?_; rintro e v3 ⟨rfl, hq3⟩; have hb3 := hbc.trans (hq3.mono zc); have a0 := (hb3.cell (p := ⟨w.heap.size, 0, none⟩) lw).trans p0; have a1 := (hb3.cell (p := ⟨w.heap.size, 1, none⟩) lw).trans p1; have a2 := (hb3.cell (p := ⟨w.heap.size, 2, none⟩) lw).trans p2; have a3 := (hb3.cell (p := ⟨w.heap.size, 3, none⟩) lw).trans p3; have a4 := (hb3.cell (p := ⟨w.heap.size, 4, none⟩) lw).trans p4)
      | fail)
    all_goals go_wp2_with fail
    all_goals go_ret
    all_goals exact ⟨by rw [← HE.out]; rfl, bW.trans (hb3.mono (by omega))⟩
theorem sxS_any : ∀ m, SxSOk m := by
  intro m
  induction m with
  | zero => intro d B w h; have := d.size_pos; omega
  | succ m ih => exact sxS_step m ih

set_option maxRecDepth 100000 in
set_option maxHeartbeats 2000000 in
theorem specFS_any (d : S) (B : Nat) (w : World) (hin : d.In w B) (hB : B ≤ w.heap.size) (hs : d.size ≤ 2000000) (hbk : d.bulk ≤ 2000000) :
    Calls Tryd.prog 18 #[d.val] w fun e w' => e = .returned (.string (S.fmt d)) ∧ Below w.heap.size w w' := by
  obtain ⟨W, hW⟩ : ∃ W, W = w.alloc (.cells #[.int .i64 d.k, .int .i64 d.n, .string d.t, .slice d.sa d.s.length d.sc, .slice d.A d.l.length d.c] 46) := ⟨_, rfl⟩
  have zW : W.heap.size = w.heap.size + 1 := by rw [hW]; simp
  have bW : Below w.heap.size w W := by rw [hW]; exact (Below.refl _ _).alloc (Nat.le_refl _) _
  have X0 : S.Box W w.heap.size d := by rw [hW]; exact S.Box.new w d _
  have iW := hin.below (bW.mono hB)
  have hq := specIsS_any d B W iW (by omega) hs
  unfold S.val at hq ⊢
  have X0q := X0
  obtain ⟨a0, a1, a2, a3, a4⟩ := X0q
  go_enter Tryd.func18, Tryd.ntmps18
  go_wp2_with fail
  rw [← hW]
  clear hW a0 a1 a2 a3 a4
  (with_reducible refine hq.mono ?_)
  clear hq
  rintro e w1 ⟨rfl, hb1⟩
  have z1 := hb1.size
  have b1 := bW.trans (hb1.mono (by omega))
  obtain ⟨a0, a1, a2, a3, a4⟩ := X0.below hb1 (by omega)
  cases hv : d.isS
  · have HE : Hid (S.fmt d = ⟨#[]⟩) := by show _ = _; unfold S.fmt; rw [hv]; rfl
    clear hv
    go_wp2_with fail
    go_ret
    exact ⟨by rw [HE.out]; rfl, b1⟩
  · have HE : Hid (S.fmt d = baL (S.txt d)) := by show _ = _; unfold S.fmt; rw [hv]; rfl
    have hv2 := hv
    unfold S.isS at hv2
    simp only [Bool.and_eq_true, decide_eq_true_eq] at hv2
    have hvd := hv2.2.2
    have hsd := hv2.1
    have hc := sxS_any _ d B w1 (Nat.le_refl _) hvd (by omega) hbk (iW.below (hb1.mono (by omega))) (by omega)
    unfold S.val at hc
    clear hv hv2 hvd
    go_wp2_with fail
    (with_reducible refine hc.mono ?_)
    clear hc
    rintro e w2 ⟨rfl, hb2⟩
    go_wp2_with fail
    go_ret
    exact ⟨by rw [HE.out]; rfl, b1.trans (hb2.mono (by omega))⟩
theorem specFS_c (d : S) {d0 : S} (B : Nat) (w : World) (he : d.er = d0.er) {T : ByteArray} (hT : T = S.fmt d0) (hin : d.In w B) (hB : B ≤ w.heap.size) (hs : d.size ≤ 2000000) (hbk : d.bulk ≤ 2000000) :
    Calls Tryd.prog 18 #[d.val] w fun e w' => e = .returned (.string T) ∧ Below w.heap.size w w' := by
  rw [hT, ← S.fmt_er he]
  exact specFS_any d B w hin hB hs hbk
end Go.Proofs.YtjgpekfnfmabbaaDoor
