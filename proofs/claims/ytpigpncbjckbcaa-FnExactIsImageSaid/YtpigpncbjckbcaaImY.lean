/-
  IsImage of the model (written by gen/imy.py).
-/
import Derived.Test.YtpigpncbjckbcaaImH
import Derived.Test.YtpigpncbjckbcaaImN
import Derived.Deep.DeepCutAuto
namespace Go.Proofs.Ytpigpncbjckbcaa
open Go.RowKit


theorem all_take_no {α : Type} {p : α → Bool} {l : List α} {j : Nat} (h : j < l.length) (hp : p l[j] = false) : l.all p = false := by
  cases hh : l.all p
  · rfl
  · have := List.all_eq_true.1 hh _ (List.getElem_mem h)
    rw [hp] at this
    exact absurd this (by decide)
theorem iall_take_succ {α : Type} {p : α → Bool} {l : List α} {j : Nat} (h : j < l.length) (ha : (l.take j).all p = true) (hp : p l[j] = true) : (l.take (j + 1)).all p = true := by
  rw [List.take_succ_eq_append_getElem h, List.all_append, ha]
  simp [hp]
set_option maxRecDepth 100000 in
set_option maxHeartbeats 8000000 in
theorem specIsIm_any (m : Im) (cap : Int) (B : Nat) (w : World) (hm : Im.E.In w B m) (hB : B ≤ w.heap.size) (hbk : m.bulk ≤ 1500000) :
    Calls Try.prog 14 #[Im.val m, .int .i64 cap] w fun e w' => e = .returned (.bool (m.isIm cap)) ∧ Below w.heap.size w w' := by
  have hcap := (Im.E_in hm).l.cap
  have hTb := cTot_bulk m.l
  have hTb2 : cTot m.l ≤ 1500000 := by unfold Im.bulk at hbk; omega
  clear hTb
  obtain ⟨W1, hW1⟩ : ∃ W1, W1 = w.alloc (.cells #[.slice m.lA m.l.length m.lC, .int .i64 m.m] 31) := ⟨_, rfl⟩
  have b1 : Below w.heap.size w W1 := by rw [hW1]; exact (Below.refl _ _).alloc (Nat.le_refl _) _
  have z1 : w.heap.size < W1.heap.size := by rw [hW1]; simp
  have xa : Im.Box W1 w.heap.size m := by rw [hW1]; exact Im.Box.new _ _ _
  have XA := Lib.hid xa
  have HM := Lib.hid (hm.below (b1.mono hB))
  unfold Im.val
  obtain ⟨a0, a1⟩ := xa
  obtain ⟨n, hn⟩ : ∃ n, n = m.l.length := ⟨_, rfl⟩
  have HNL := Lib.hid hn.symm
  rw [← hn] at hW1 a0 hcap ⊢
  clear hn
  by_cases h0 : (1 : Int) ≤ (n : Int) ∧ (n : Int) ≤ 1500
  · have HN : Hid (∀ h : ¬ (m.m = (n : Int) - 1 ∧ (Cd.at' m.l m.m).p = 0 ∧ (Cd.at' m.l m.m).c = cap ∧ Cd.okTo false m.l n = true ∧ m.l.all (fun c => (Cd.depths m.l c).isSome) = true ∧ cTot m.l ≤ 16000), m.isIm cap = false) := fun h => Im.isIm_no (by rw [HNL.out]; rintro ⟨_, ⟨e1, e2, e3⟩, e4, e5, e6, _⟩; exact h ⟨e1, e2, e3, e4, e5, e6⟩)
    have hsub := IntWalk.i64_in ((n : Int) - 1) (by omega)
    by_cases h5 : m.m = (n : Int) - 1
    · obtain ⟨q, hq⟩ : ∃ q : Nat, m.m = q := ⟨m.m.toNat, by omega⟩
      have e5 : (m.m != (n : Int) - 1) = false := by simp [h5]
      have hqn : q + 1 = n := by omega
      have HQN := Lib.hid hqn
      have hql : q < m.l.length := by rw [HNL.out]; omega
      have lq0 : (0 : Int) ≤ m.m := by omega
      have lq : m.m < (n : Int) := by omega
      have HQM := Lib.hid hq
      have H5 := Lib.hid h5
      have hm2 := HM.out
      obtain ⟨cb, co, eC, hblk, c0, c1, c2, c3, hci⟩ := Cd.at_ (Im.E_in hm2).l (i := q) (x := m.l[q]) (List.getElem?_eq_getElem hql)
      have HAT : Hid (m.l[q] = Cd.at' m.l m.m) := by show _ = _; rw [HQM.out]; exact (Cd.at'_get hql).symm
      obtain ⟨c, hc⟩ : ∃ c, c = m.l[q] := ⟨_, rfl⟩
      rw [← hc] at c0 c1 c2 c3 HAT
      have hqt : q = m.m.toNat := by omega
      rw [hqt] at c0 c1 c2 c3
      clear hc hci hm2 h5 hqn hq hqt
      have HEC := Lib.hid eC
      rw [eC] at a0 hW1 ⊢
      clear eC
      by_cases h6 : c.p = 0
      · have e6 : (c.p != 0) = false := by simp [h6]
        have H6 := Lib.hid h6
        clear h6
        by_cases h7 : c.c = cap
        · have e7 : (c.c != cap) = false := by simp [h7]
          have H7 := Lib.hid h7
          clear h7
          go_enter Try.func14, Try.ntmps14
          go_upto_region 1 with fail
          rw [← hW1]
          clear hW1
          go_wp2_with fail
          (with_reducible refine (l1In_any _ _ _ _).mono ?_)
          rintro e v1 ⟨rfl, hv1⟩
          obtain rfl := hv1
          rw [decide_eq_true h0]
          go_wp2_with fail
          clear a0 a1 c0 c1 c2 c3
          go_loopw [47, 5] (fun i s wr => ∃ j : Nat, j ≤ n ∧ i = .int .i64 j ∧ s = .int .i64 (cTot (m.l.take j) : Int) ∧ Hid (Cd.okTo true m.l j = true) ∧ Hid ((m.l.take j).all (fun c => (Cd.depths m.l c).isSome) = true) ∧ Below W1.heap.size W1 wr) (fun i _ _ => n - (intOf i).toNat)
          case atStart => exact ⟨0, Nat.zero_le _, rfl, rfl, rfl, rfl, Below.refl _ _⟩
          case round =>
            obtain ⟨j, hj, rfl, rfl, HO, HD, hbr⟩ := hrel
            have zr := hbr.size
            obtain ⟨a0, a1⟩ := XA.out.below hbr z1
            rw [HEC.out, HNL.out] at a0
            by_cases hlt : j < n
            · have lj : (j : Int) < (n : Int) := by omega
              have lj0 : (0 : Int) ≤ (j : Int) := by omega
              have hjl : j < m.l.length := by rw [HNL.out]; exact hlt
              have hmr := HM.out.below (hbr.mono (by omega))
              have hc1 := l10Code_any m m.l[j] j B wr (List.getElem?_eq_getElem hjl) hmr (by omega) hbk
              have HAJ := Lib.hid (Cd.at'_get hjl)
              rw [← HAJ.out] at hc1
              obtain ⟨X, hX⟩ : ∃ X, X = Cd.okAt true m.l j (Cd.at' m.l (j : Int)) := ⟨_, rfl⟩
              rw [← hX] at hc1
              have HX := Lib.hid hX
              clear hX
              unfold Im.val at hc1
              rw [HEC.out, HNL.out] at hc1
              have HT := Lib.hid (cTot_take hjl)
              have hle := cTot_le m.l (j + 1)
              have hck : m.l[j]? = some m.l[j] := List.getElem?_eq_getElem hjl
              have HNO : Hid (m.l[j] = m.l[j]) := rfl
              have HDN : Hid ((Cd.depths m.l m.l[j]).isSome = false → m.l.all (fun c => (Cd.depths m.l c).isSome) = false) := fun h => all_take_no (p := fun c => (Cd.depths m.l c).isSome) hjl h
              have HDY : Hid ((Cd.depths m.l m.l[j]).isSome = true → (m.l.take (j + 1)).all (fun c => (Cd.depths m.l c).isSome) = true) := fun h => iall_take_succ (p := fun c => (Cd.depths m.l c).isSome) hjl HD.out h
              have HF : Hid (Cd.okTo true m.l (j + 1) = true → Cd.fit m.l m.l[j]) := fun h => by have := Cd.fit_of h hjl; rwa [Cd.at'_get hjl] at this
              obtain ⟨cd, hcd⟩ : ∃ c, c = m.l[j] := ⟨_, rfl⟩
              rw [← hcd] at hck HDN HDY HF HT
              clear HNO
              have HCD := Lib.hid hcd
              clear hcd hmr
              have HLE : Hid (cTot (m.l.take j) + cd.l.length ≤ cTot m.l) := by show _ ≤ _; have := HT.out; omega
              obtain ⟨t, ht⟩ : ∃ t, t = cTot (m.l.take j) := ⟨_, rfl⟩
              rw [← ht] at HLE HT ⊢
              clear ht hle
              have HTB := Lib.hid hTb2
              go_wp2_with fail
              clear a0 a1
              (with_reducible refine hc1.mono ?_)
              clear hc1
              rintro e w2 ⟨rfl, hb2⟩
              have hb3 := hbr.trans (hb2.mono zr)
              have z2 := hb2.size
              cases X
              · have HQ := Lib.hid (HN.out (by rw [← Cd.okTo_sp, Cd.okTo_no true m.l HX.out.symm hlt]; rintro ⟨_, _, _, e, _⟩; exact absurd e (by decide)))
                go_wp2_with fail
                go_ret
                exact ⟨ret_bool HQ.out.symm, b1.trans (hb3.mono (by omega))⟩
              · have HO2 : Hid (Cd.okTo true m.l (j + 1) = true) := by show _ = _; rw [Cd.okTo_succ, HO.out, ← HX.out]; rfl
                have hm2 := HM.out.below (hb3.mono (by omega))
                have hd := l10Depths_any m cd j B w2 hck (HF.out HO2.out) hm2 (by omega)
                obtain ⟨a0, a1⟩ := XA.out.below hb3 z1
                rw [HEC.out, HNL.out] at a0
                unfold Im.val at hd
                rw [HEC.out, HNL.out] at hd
                have HM2 := Lib.hid hm2
                clear hm2
                go_wp2_with fail
                (with_reducible refine hd.mono ?_)
                clear hd a0 a1
                intro e w3 hh
                have hb4 := hb3.trans (hh.1.mono (by omega))
                obtain ⟨hb5, ⟨hR, rfl⟩ | ⟨ds, g, hR, rfl, -, -⟩⟩ := hh
                · have HQ := Lib.hid (HN.out (by rw [HDN.out (by rw [hR]; rfl)]; rintro ⟨_, _, _, _, e, _⟩; exact absurd e (by decide)))
                  clear hR
                  go_wp2_with fail
                  go_ret
                  exact ⟨ret_bool HQ.out.symm, b1.trans (hb4.mono (by omega))⟩
                · have HD2 := Lib.hid (HDY.out (by rw [hR]; rfl))
                  have z3 := hb5.size
                  have hcs := (Im.E_in (HM2.out.below (hb5.mono (by omega)))).l
                  obtain ⟨cb', co', eC, hblk', c0, c1, c2, c3, hci⟩ := Cd.at_ hcs (i := j) (x := cd) hck
                  obtain ⟨rfl, rfl⟩ : cb = cb' ∧ co = co' := by have := HEC.out.symm.trans eC; simp at this; exact this
                  have hccap := (Cd.E_in hci).l.cap
                  obtain ⟨a0, a1⟩ := XA.out.below hb4 z1
                  rw [HEC.out, HNL.out] at a0
                  have hsum := IntWalk.i64_in ((t : Int) + (cd.l.length : Int)) (by have := HLE.out; have := HTB.out; omega)
                  clear hR eC hci hcs hck
                  go_wp2_with fail
                  refine ⟨⟨j + 1, by omega, by go_num, by rw [HT.out]; simp, HO2, HD2, hb4⟩, by simp [intOf]; omega⟩
            · have hj' : j = n := by omega
              have HON : Hid (Cd.okTo false m.l n = true) := by show _ = _; rw [← Cd.okTo_sp, ← hj']; exact HO.out
              have HDA : Hid (m.l.all (fun c => (Cd.depths m.l c).isSome) = true) := by show _ = _; have := HD.out; rw [hj', ← HNL.out, List.take_length] at this; exact this
              have ht : cTot (m.l.take j) = cTot m.l := by rw [hj', ← HNL.out, List.take_length]
              rw [ht]
              clear ht
              obtain ⟨T, hT⟩ : ∃ T, T = cTot m.l := ⟨_, rfl⟩
              have HT := Lib.hid hT
              rw [← hT] at hTb2 ⊢
              clear hT
              have hok : Cd.okTo false m.l m.l.length = true := by rw [HNL.out]; exact HON.out
              by_cases h3 : T ≤ 16000
              · have h4 : (T : Int) ≤ 16000 := by omega
                have HIS : Hid (m.isIm cap = m.tree) := Im.isIm_is (by rw [HNL.out]; omega) ⟨by rw [HNL.out]; exact H5.out, by rw [← HAT.out]; exact H6.out, by rw [← HAT.out]; exact H7.out⟩ hok HDA.out (by rw [← HT.out]; exact h3)
                have ht := l10Tree_any m B wr (HM.out.below (hbr.mono (by omega))) (by omega) (fun c hc x hx hi => by have := Cd.names hok hc hx hi; omega) (by rw [← HT.out]; exact h3) (by rw [HNL.out]; omega)
                rw [← HIS.out] at ht
                unfold Im.val at ht
                rw [HEC.out, HNL.out] at ht
                obtain ⟨Z, hZ⟩ : ∃ Z, Z = m.isIm cap := ⟨_, rfl⟩
                rw [← hZ] at ht
                have HZ := Lib.hid hZ
                clear hZ h3 hok
                have hnj : ¬ (j : Int) < (n : Int) := by omega
                clear hj'
                go_wp2_with fail
                (with_reducible refine ht.mono ?_)
                clear ht a0 a1
                rintro e w2 ⟨rfl, hb2⟩
                go_wp2_with fail
                go_ret
                exact ⟨ret_bool HZ.out, b1.trans ((hbr.trans (hb2.mono zr)).mono (by omega))⟩
              · have h4 : ¬ (T : Int) ≤ 16000 := by omega
                have HQ := Lib.hid (HN.out (by rw [← HT.out]; rintro ⟨_, _, _, _, _, e⟩; exact h3 e))
                clear h3 hok
                have hnj : ¬ (j : Int) < (n : Int) := by omega
                clear hj'
                go_wp2_with fail
                go_ret
                exact ⟨ret_bool HQ.out.symm, b1.trans (hbr.mono (by omega))⟩
        · have e7 : (c.c != cap) = true := by simpa using h7
          have HQ := Lib.hid (HN.out (by rw [← HAT.out]; rintro ⟨_, _, e, _⟩; exact h7 e))
          clear h7
          go_enter Try.func14, Try.ntmps14
          go_upto_region 1 with fail
          rw [← hW1]
          clear hW1
          go_wp2_with fail
          (with_reducible refine (l1In_any _ _ _ _).mono ?_)
          rintro e v1 ⟨rfl, hv1⟩
          obtain rfl := hv1
          rw [decide_eq_true h0]
          go_wp2_with fail
          go_ret
          exact ⟨ret_bool HQ.out.symm, b1⟩
      · have e6 : (c.p != 0) = true := by simpa using h6
        have HQ := Lib.hid (HN.out (by rw [← HAT.out]; rintro ⟨_, e, _⟩; exact h6 e))
        clear h6
        go_enter Try.func14, Try.ntmps14
        go_upto_region 1 with fail
        rw [← hW1]
        clear hW1
        go_wp2_with fail
        (with_reducible refine (l1In_any _ _ _ _).mono ?_)
        rintro e v1 ⟨rfl, hv1⟩
        obtain rfl := hv1
        rw [decide_eq_true h0]
        go_wp2_with fail
        go_ret
        exact ⟨ret_bool HQ.out.symm, b1⟩
    · have e5 : (m.m != (n : Int) - 1) = true := by simpa using h5
      have HQ := Lib.hid (HN.out (by rintro ⟨e, _⟩; exact h5 e))
      clear h5
      go_enter Try.func14, Try.ntmps14
      go_upto_region 1 with fail
      rw [← hW1]
      clear hW1
      go_wp2_with fail
      (with_reducible refine (l1In_any _ _ _ _).mono ?_)
      rintro e v1 ⟨rfl, hv1⟩
      obtain rfl := hv1
      rw [decide_eq_true h0]
      go_wp2_with fail
      go_ret
      exact ⟨ret_bool HQ.out.symm, b1⟩
  · have HQ : Hid (m.isIm cap = false) := Im.isIm_no (by rw [HNL.out]; rintro ⟨h, _⟩; omega)
    go_enter Try.func14, Try.ntmps14
    go_upto_region 1 with fail
    rw [← hW1]
    clear hW1
    go_wp2_with fail
    (with_reducible refine (l1In_any _ _ _ _).mono ?_)
    rintro e v1 ⟨rfl, hv1⟩
    obtain rfl := hv1
    rw [decide_eq_false h0]
    go_wp2_with fail
    go_ret
    exact ⟨ret_bool HQ.out.symm, b1⟩
end Go.Proofs.Ytpigpncbjckbcaa
