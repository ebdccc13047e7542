/-
  The text of a datum: the program walked (written by gen/txd.py).
-/
import Derived.Test.YtpigpncbjckbcaaDoorTxS
import Derived.Test.YtpigpncbjckbcaaDoorFmtL
import Derived.Test.YtpigpncbjckbcaaDoorShelf
import Derived.Deep.AppendLies
namespace Go.Proofs.YtpigpncbjckbcaaDoor
open Go.RowKit

def TxIOk (m : Nat) : Prop := ∀ (d : D) (B : Nat) (w : World), d.size ≤ m → d.valid = true → d.size ≤ 2000 → d.In w B → B ≤ w.heap.size → Tab w →
    Calls Tryd.prog 29 #[d.val] w fun e w' => e = .returned (.string (baL (D.txt d))) ∧ Below w.heap.size w w'

set_option maxRecDepth 100000 in
set_option maxHeartbeats 4000000 in
theorem txI_step (m : Nat) (ih : TxIOk m) : TxIOk (m + 1) := by
  intro d B w hm hv hs hin hB ht
  have hlen := D.txt_len d hv
  obtain ⟨k, n, t, A, c, l⟩ := d
  have hmm : D.sizeL l ≤ m := by simp only [D.size] at hm; omega
  have hsl : D.sizeL l ≤ 2000 := by simp only [D.size] at hs; omega
  have hcap := hin.cap
  simp only [D.l, D.c, D.t] at hcap
  simp only [D.valid, Bool.and_eq_true] at hv
  have hn := D.node_small hv.1
  have hvl := hv.2
  obtain ⟨W, hW⟩ : ∃ W, W = w.alloc (.cells #[.int .i64 k, .int .i64 n, .string t, .slice A l.length c] 31) := ⟨_, rfl⟩
  have zW : W.heap.size = w.heap.size + 1 := by rw [hW]; simp
  have bW : Below w.heap.size w W := by rw [hW]; exact (Below.refl _ _).alloc (Nat.le_refl _) _
  have X0 : D.Box W w.heap.size (.mk k n t A c l) := by rw [hW]; exact D.Box.new w (.mk k n t A c l) _
  obtain ⟨a0, a1, a2, a3⟩ := X0
  simp only [D.k, D.n, D.t, D.A, D.l, D.c] at a0 a1 a2 a3
  have inW := hin.below (bW.mono hB)
  have HT := ht.below bW (Nat.le_refl _)
  clear ht
  obtain ⟨T, hT⟩ : ∃ T, T = baL (D.txt (.mk k n t A c l)) := ⟨_, rfl⟩
  rw [← hT]
  have hTs : T.size ≤ 80000 := by rw [hT, baL_size]; omega
  clear hlen hin
  simp only [D.val, D.k, D.n, D.t, D.A, D.l, D.c]
  by_cases e1 : k = 1
  · subst e1
    have HE : Hid (t = T) := by show _ = _; rw [hT, D.txt, if_pos rfl]; exact baL_of rfl
    clear hT hn hv hvl inW
    go_enter Tryd.func29, Tryd.ntmps29
    go_wp2_with fail
    rw [← hW]
    go_ret
    exact ⟨by rw [← HE.out]; rfl, bW⟩
  by_cases e2 : k = 2
  · subst e2
    have hr := hn.2.1 rfl
    have HE : Hid (baL (Lib.itoa n) = T) := by show _ = _; rw [hT, D.txt, if_neg (by decide), if_pos rfl]
    have hc : Calls Tryd.prog 31 #[.int .i64 n] W fun e w' => e = .returned (.string (baL (Lib.itoa n))) ∧ Below W.heap.size W w' := implFmtN_any n (by omega) (by omega) W HT
    clear hT hn hv hvl inW hr e1
    go_enter Tryd.func29, Tryd.ntmps29
    go_wp2_with fail
    rw [← hW]
    refine hc.mono ?_
    rintro e w1 ⟨rfl, hb⟩
    clear hc
    go_wp2_with fail
    go_ret
    exact ⟨by rw [← HE.out]; rfl, bW.trans (hb.mono (by omega))⟩
  by_cases e3 : k = 3
  · subst e3
    rcases hn.2.2.1 rfl with hz | hz
    · have HE : Hid ((⟨#[35, 102]⟩ : ByteArray) = T) := by show _ = _; rw [hT, D.txt, if_neg (by decide), if_neg (by decide), if_pos rfl, if_neg (by omega)]; rfl
      subst hz
      clear hT hn hv hvl inW e1 e2
      go_enter Tryd.func29, Tryd.ntmps29
      go_wp2_with fail
      rw [← hW]
      go_ret
      exact ⟨by rw [← HE.out]; rfl, bW⟩
    · have HE : Hid ((⟨#[35, 116]⟩ : ByteArray) = T) := by show _ = _; rw [hT, D.txt, if_neg (by decide), if_neg (by decide), if_pos rfl, if_pos hz]; rfl
      subst hz
      clear hT hn hv hvl inW e1 e2
      go_enter Tryd.func29, Tryd.ntmps29
      go_wp2_with fail
      rw [← hW]
      go_ret
      exact ⟨by rw [← HE.out]; rfl, bW⟩
  by_cases e4 : k = 4
  · subst e4
    have hts := hn.1 (.inr rfl)
    have HE : Hid ((⟨#[34]⟩ : ByteArray) ++ t ++ (⟨#[34]⟩ : ByteArray) = T) := by
      show _ = _
      rw [hT, D.txt, if_neg (by decide), if_neg (by decide), if_neg (by decide), if_pos rfl]
      refine baL_of ?_
      rw [ba_app, ba_app]
      rfl
    clear hT hn hv hvl inW e1 e2 e3
    go_enter Tryd.func29, Tryd.ntmps29
    go_wp2_with fail
    rw [← hW]
    go_ret
    exact ⟨by rw [← HE.out]; rfl, bW⟩
  have e0 : k = 0 := by omega
  subst e0
  have hll := D.length_le_sizeL l
  obtain ⟨SS, hSS⟩ : ∃ SS, SS = l.map fun d => baL (D.txt d) := ⟨_, rfl⟩
  have hSl : SS.length = l.length := by rw [hSS, List.length_map]
  obtain ⟨J, hJ⟩ : ∃ J, J = baL (Lib.join (SS.map (·.data.toList)) [32]) := ⟨_, rfl⟩
  have hST : SS.map (·.data.toList) = D.txtL l := by
    rw [hSS, D.txtL_map, List.map_map]
    exact List.map_congr_left fun d _ => baL_list _
  have HE : Hid ((⟨#[40]⟩ : ByteArray) ++ J ++ (⟨#[41]⟩ : ByteArray) = T) := by
    show _ = _
    rw [hT, D.txt, if_neg (by decide), if_neg (by decide), if_neg (by decide), if_neg (by decide), hJ, hST]
    refine baL_of ?_
    rw [ba_app, ba_app, baL_list]
    rfl
  have hJs : J.size ≤ 80000 := by
    have h := HE.out
    have h2 : ((⟨#[40]⟩ : ByteArray) ++ J ++ (⟨#[41]⟩ : ByteArray)).size = T.size := by rw [h]
    rw [ByteArray.size_append, ByteArray.size_append] at h2
    omega
  have hJl : (Lib.join (SS.map (·.data.toList)) [32]).length ≤ 80000 := by rw [← baL_size, ← hJ]; exact hJs
  have HJ := Lib.hid hJ
  have HJl := Lib.hid hJl
  have HSS := Lib.hid hSS
  have hvj : ∀ j (h : j < l.length), l[j].valid = true := fun j h => by
    have e := D.validL_append (l.take j) (l.drop j)
    rw [List.take_append_drop, List.drop_eq_getElem_cons h] at e
    simp only [D.validL] at e
    rw [hvl] at e
    have := e.symm
    simp only [Bool.and_eq_true] at this
    exact this.2.1
  have HV := Lib.hid hvj
  clear hT hn hv hvl e1 e2 e3 e4 hJ hJl hSS hST hvj
  obtain ⟨i0, hi0, hz0, hz1, hz2⟩ := info_parts infoT
  have hmk := fun W => run_make_rowN (P := Tryd.prog) 49 9 i0 _ Tryd.underlying49 hi0 hz0 .i64 .i64 l.length l.length (Nat.le_refl _) (by rw [hz2]; omega) (by omega) W
  rw [hz1] at hmk
  go_enter Tryd.func29, Tryd.ntmps29
  go_wp2_with fail
  rw [← hW]
  clear hW
  go_loopw [4, 5, 35] (fun _ _ i wr => ∃ (j : Nat) (ds : List ByteArray), j ≤ l.length ∧ i = .int .i64 j ∧ Hid (ds = SS.take j) ∧ ds.length ≤ j ∧ j ≤ ds.length ∧ TRow wr (w.heap.size + 1) l.length ds ∧ Below W.heap.size W wr) (fun _ _ i _ => l.length - (intOf i).toNat)
  case atStart => exact ⟨0, [], Nat.zero_le _, rfl, rfl, Nat.le_refl _, Nat.le_refl _, ⟨_, (by rw [← zW]; exact D.Blk.new _ _ _), by rw [size_madeCells], by simp⟩, (Below.refl _ _).alloc (Nat.le_refl _) _⟩
  case round =>
    obtain ⟨j, ds, hj, rfl, HD, hd1, hd2, hrow, hb⟩ := hrel
    have hs2 := hb.size
    by_cases hlt : j < l.length
    · obtain ⟨b, o, rfl, hblk, c0, c1, c2, c3, hix⟩ := (inW.below (hb.mono (by omega))).at_ (i := j) (x := l[j]) (List.getElem?_eq_getElem hlt)
      have hsz := D.sizeL_mem (l := l) (List.getElem_mem hlt)
      have hglt : w.heap.size + 1 < wr.heap.size := hrow.lt
      go_wp2_with fail
      refine (ih l[j] B _ (by omega) (HV.out j hlt) (by omega) (hix.alloc (by omega) _) (by simp; omega) (HT.below (hb.alloc hs2 _) (Nat.le_refl _))).mono ?_
      rintro e w1 ⟨rfl, hb1⟩
      have hb1 : Below wr.heap.size wr w1 := ((Below.refl _ _).alloc (Nat.le_refl _) _).trans (hb1.mono (by simp))
      have hrow1 := hrow.below hb1 hglt
      obtain ⟨u0, hc0⟩ := hrow1.old hlt
      have f0 := hrow1.frozen j
      have hst := hrow1.step (Nat.le_antisymm hd1 hd2) hlt (baL (D.txt l[j]))
      have HD2 : Hid (ds ++ [baL (D.txt l[j])] = SS.take (j + 1)) := by
        show _ = _
        rw [List.take_succ_eq_append_getElem (by omega), ← HD.out]
        congr 2
        have h := HSS.out
        subst h
        simp
      have Hst := Lib.hid hst
      clear hst hrow1 hrow
      go_wp2_with fail
      refine ⟨⟨j + 1, _, by omega, by go_num, HD2.out, by simp; omega, by simp; omega, Hst.out, ((hb.trans (hb1.mono hs2)).setCell (by simp; omega) _)⟩, by simp [intOf]; omega⟩
    · have hj' : j = l.length := by omega
      subst hj'
      have hds : ds = SS := by rw [HD.out, List.take_of_length_le (by omega)]
      subst hds
      obtain ⟨cs, h1, h2, h3⟩ := hrow
      have hcon : Calls Tryd.prog 38 #[.slice (some ⟨w.heap.size + 1, 0, none⟩) l.length l.length, .string ⟨#[32]⟩] wr fun e w' => e = .returned (.string J) ∧ Below wr.heap.size wr w' := by
        have h := Tryd.strings_Join (w.heap.size + 1) 0 l.length ds ⟨#[32]⟩ wr (fun i x hx => by rw [Nat.zero_add, h1.cell]; exact h3 i x hx) h1.lt (by omega) (by omega) (by have := HJl.out; exact Nat.le_trans this (by decide))
        rw [hSl] at h
        rw [HJ.out]
        exact h
      clear h1 h2 h3 HD
      go_wp2_with fail
      refine hcon.mono ?_
      rintro e w1 ⟨rfl, hb1⟩
      clear hcon
      go_wp2_with fail
      go_ret
      exact ⟨by rw [← HE.out]; rfl, bW.trans ((hb.trans (hb1.mono hs2)).mono (by omega))⟩

theorem txI_any : ∀ m, TxIOk m := by
  intro m
  induction m with
  | zero => intro d B w h; have := d.size_pos; omega
  | succ m ih => exact txI_step m ih

end Go.Proofs.YtpigpncbjckbcaaDoor
