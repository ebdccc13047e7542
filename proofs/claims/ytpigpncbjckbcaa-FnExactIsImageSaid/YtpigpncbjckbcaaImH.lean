/-
  IsImage of the program (written by gen/imh.py).
-/
import Derived.Test.YtpigpncbjckbcaaImG
import Derived.Deep.DeepCutAuto
namespace Go.Proofs.Ytpigpncbjckbcaa
open Go.RowKit

def Im.isIm (m : Im) (cap : Int) : Bool :=
  decide (1 ≤ m.l.length ∧ m.l.length ≤ 1500) && (decide (m.m = (m.l.length : Int) - 1 ∧ (Cd.at' m.l m.m).p = 0 ∧ (Cd.at' m.l m.m).c = cap) && (Cd.okTo false m.l m.l.length && (m.l.all (fun c => (Cd.depths m.l c).isSome) && (decide (cTot m.l ≤ 16000) && m.tree))))
theorem Im.isIm_iff {m : Im} {cap : Int} : m.isIm cap = true ↔ (1 ≤ m.l.length ∧ m.l.length ≤ 1500) ∧ (m.m = (m.l.length : Int) - 1 ∧ (Cd.at' m.l m.m).p = 0 ∧ (Cd.at' m.l m.m).c = cap) ∧ Cd.okTo false m.l m.l.length = true ∧ m.l.all (fun c => (Cd.depths m.l c).isSome) = true ∧ cTot m.l ≤ 16000 ∧ m.tree = true := by
  unfold Im.isIm
  simp only [Bool.and_eq_true, decide_eq_true_eq]
theorem Im.isIm_no {m : Im} {cap : Int} (h : ¬ ((1 ≤ m.l.length ∧ m.l.length ≤ 1500) ∧ (m.m = (m.l.length : Int) - 1 ∧ (Cd.at' m.l m.m).p = 0 ∧ (Cd.at' m.l m.m).c = cap) ∧ Cd.okTo false m.l m.l.length = true ∧ m.l.all (fun c => (Cd.depths m.l c).isSome) = true ∧ cTot m.l ≤ 16000 ∧ m.tree = true)) : m.isIm cap = false :=
  Bool.eq_false_iff.2 fun e => h (Im.isIm_iff.1 e)
theorem Im.isIm_is {m : Im} {cap : Int} (h1 : 1 ≤ m.l.length ∧ m.l.length ≤ 1500) (h2 : m.m = (m.l.length : Int) - 1 ∧ (Cd.at' m.l m.m).p = 0 ∧ (Cd.at' m.l m.m).c = cap) (h3 : Cd.okTo false m.l m.l.length = true) (h4 : m.l.all (fun c => (Cd.depths m.l c).isSome) = true) (h5 : cTot m.l ≤ 16000) : m.isIm cap = m.tree := by
  unfold Im.isIm
  rw [decide_eq_true h1, decide_eq_true h2, h3, h4, decide_eq_true h5]
  rfl
theorem Cd.okTo_mono {sp : Bool} {cs : List Cd} {n k : Nat} (h : Cd.okTo sp cs n = true) (hk : k ≤ n) : Cd.okTo sp cs k = true := by
  unfold Cd.okTo
  rw [List.all_eq_true]
  intro j hj
  exact Cd.okTo_le sp cs h (Nat.lt_of_lt_of_le (List.mem_range.1 hj) hk)
theorem Cd.fit_all {sp : Bool} {cs : List Cd} (h : Cd.okTo sp cs cs.length = true) {c : Cd} (hc : c ∈ cs) : Cd.fit cs c := by
  obtain ⟨k, hk, rfl⟩ := List.getElem_of_mem hc
  have := Cd.fit_of (Cd.okTo_mono h (show k + 1 ≤ cs.length by omega)) hk
  rwa [Cd.at'_get hk] at this
theorem Cd.names {sp : Bool} {cs : List Cd} (h : Cd.okTo sp cs cs.length = true) {c : Cd} (hc : c ∈ cs) {x : Nt} (hx : x ∈ c.l) (hi : x.inside = true) : 0 ≤ x.i ∧ x.i.toNat + 1 < cs.length := by
  obtain ⟨k, hk, rfl⟩ := List.getElem_of_mem hc
  have h1 := Cd.okTo_le sp cs h hk
  rw [Cd.at'_get hk] at h1
  unfold Cd.okAt at h1
  simp only [Bool.and_eq_true] at h1
  have h2 := List.all_eq_true.1 h1.2 x hx
  unfold Nt.good at h2
  simp only [Bool.and_eq_true] at h2
  have ho := Nt.ok_out h2.1
  have h3 : x.o = 11 ∨ 18 ≤ x.o := by
    unfold Nt.inside insO at hi
    simp at hi
    omega
  have h4 := wthn_call h2.2 ho.1.2 h3
  exact ⟨ho.2.1, by omega⟩
theorem cTot_bulk (l : List Cd) : cTot l ≤ Row.bulk Cd.bulk l := by
  induction l with
  | nil => exact Nat.le_refl _
  | cons c r ih =>
    have h1 : cTot (c :: r) = c.l.length + cTot r := by unfold cTot; rw [List.map_cons, List.sum_cons]
    have h2 := Row.bulk_len Nt.bulk c.l
    have h3 : Cd.bulk c = Row.bulk Nt.bulk c.l := rfl
    simp only [Row.bulk]
    omega

set_option maxRecDepth 100000 in
set_option maxHeartbeats 2000000 in
theorem noDep_any (m : Im) (c : Cd) (pm B : Nat) (w : World) (hfit : Cd.fit m.l c) (hm : Im.E.In w B m) (hc : Cd.E.In w B c) (hB : B ≤ w.heap.size) (xa : Im.Box w pm m) (hpm : pm < w.heap.size) :
    Calls Try.prog 34 #[Cd.val c, .pointer (some ⟨pm, 0, none⟩)] w fun e w' => e = .returned (.bool (!(Cd.depths m.l c).isSome)) ∧ Below w.heap.size w w' := by
  obtain ⟨W1, hW1⟩ : ∃ W1, W1 = w.alloc (.cells #[.int .i64 c.p, .int .i64 c.s, .int .i64 c.c, .slice c.lA c.l.length c.lC] 48) := ⟨_, rfl⟩
  have b1 : Below w.heap.size w W1 := by rw [hW1]; exact (Below.refl _ _).alloc (Nat.le_refl _) _
  have xc : Cd.Box W1 w.heap.size c := by rw [hW1]; exact Cd.Box.new _ _ _
  have hd := depthsIn_any m c B W1 hfit (hm.below (b1.mono hB)) (hc.below (b1.mono hB)) (by have := b1.size; omega)
  obtain ⟨a0, a1⟩ := xa.below b1 hpm
  unfold Cd.val at hd ⊢
  unfold Im.val at hd
  obtain ⟨c0, c1, c2, c3⟩ := xc
  obtain ⟨R, hR⟩ : ∃ R, R = Cd.depths m.l c := ⟨_, rfl⟩
  rw [← hR] at hd ⊢
  clear hR
  go_enter Try.func34, Try.ntmps34
  go_upto_region 1 with fail
  rw [← hW1]
  clear hW1
  go_wp2_with fail
  (with_reducible refine hd.mono ?_)
  clear hd
  rintro e w2 ⟨hb2, ⟨rfl, rfl⟩ | ⟨ds, g, rfl, rfl, -, -⟩⟩
  · go_wp2_with fail
    go_ret
    exact ⟨rfl, b1.trans (hb2.mono b1.size)⟩
  · go_wp2_with fail
    go_ret
    exact ⟨rfl, b1.trans (hb2.mono b1.size)⟩

set_option maxRecDepth 100000 in
set_option maxHeartbeats 2000000 in
theorem conNoDep_any (V0 : Value) (p : Cd → Bool) (A : Option Addr) (c : Nat) (l : List Cd) (B : Nat) (w : World) (hin : Cd.E.LIn w B A c l) (hB : B ≤ w.heap.size)
    (hcall : Hid (∀ (u : World) (x : Cd), Below w.heap.size w u → x ∈ l → Cd.E.In u B x → Calls Try.prog 34 #[Cd.val x, V0] u fun e w' => e = .returned (.bool (p x)) ∧ Below u.heap.size u w')) :
    Calls Try.prog 37 #[.slice A l.length c, .func (.func 34) #[] #[V0]] w fun e w' => e = .returned (.bool (l.any p)) ∧ Below w.heap.size w w' := by
  have hcap := hin.cap
  have key : Calls Try.prog 53 #[.slice A l.length c, .func (.func 34) #[] #[V0]] w fun e w' => (∃ r : Int, e = .returned (.int .i64 r) ∧ decide (0 ≤ r) = l.any p) ∧ Below w.heap.size w w' := by
    go_enter Try.func53, Try.ntmps53
    go_wp2_with fail
    go_loopw [5, 8] (fun _ i wr => ∃ j : Nat, j ≤ l.length ∧ i = .int .i64 j ∧ Hid (∀ x ∈ l.take j, p x = false) ∧ Below w.heap.size w wr) (fun _ i _ => l.length - (intOf i).toNat)
    case atStart => exact ⟨0, Nat.zero_le _, rfl, by simp [Hid], Below.refl _ _⟩
    case round =>
      obtain ⟨j, hj, rfl, HN, hb⟩ := hrel
      by_cases hlt : j < l.length
      · have hsz := hb.size
        obtain ⟨b, o, rfl, hblk, c0, c1, c2, c3, hix⟩ := Cd.at_ (hin.below (hb.mono hB)) (i := j) (x := l[j]) (List.getElem?_eq_getElem hlt)
        have g2 : (j : Int) < (l.length : Int) := by omega
        have hc := hcall.out wr l[j] hb (List.getElem_mem hlt) hix
        obtain ⟨PB, hPB⟩ : ∃ z, z = p l[j] := ⟨_, rfl⟩
        rw [← hPB] at hc
        have HPB := Lib.hid hPB
        clear hPB
        unfold Cd.val at hc
        go_wp2_with fail
        (with_reducible refine hc.mono ?_)
        clear hc
        rintro e w1 ⟨rfl, hb1⟩
        have hb3 := hb.trans (hb1.mono (by omega))
        clear c0 c1 c2 c3 hb1
        cases PB
        · have HN2 : Hid (∀ x ∈ l.take (j + 1), p x = false) := inone_succ hlt HN.out HPB.out.symm
          go_wp2_with fail
          refine ⟨⟨j + 1, by omega, by go_num, HN2, hb3⟩, by simp [intOf]; omega⟩
        · have HY : Hid (l.any p = true) := iany_yes (p := p) hlt HPB.out.symm
          go_wp2_with fail
          go_ret
          exact ⟨⟨j, rfl, by rw [HY.out]; simp⟩, hb3⟩
      · have hj' : j = l.length := by omega
        subst hj'
        have HF : Hid (l.any p = false) := iany_none (p := p) (by have := HN.out; rwa [List.take_length] at this)
        go_wp2_with fail
        go_ret
        exact ⟨⟨-1, rfl, by rw [HF.out]; rfl⟩, hb⟩
  go_enter Try.func37, Try.ntmps37
  go_wp2_with fail
  (with_reducible refine key.mono ?_)
  rintro e w1 ⟨⟨r, rfl, hr⟩, hb1⟩
  have HR := Lib.hid hr
  clear hr key
  go_wp2_with fail
  go_ret
  exact ⟨ret_bool HR.out, hb1⟩

set_option maxRecDepth 100000 in
set_option maxHeartbeats 8000000 in
theorem implIsIm_any (m : Im) (cap : Int) (B : Nat) (w : World) (hm : Im.E.In w B m) (hB : B ≤ w.heap.size) (hbk : m.bulk ≤ 1500000) :
    Calls Try.prog 15 #[Im.val m, .int .i64 cap] w fun e w' => e = .returned (.bool (m.isIm cap)) ∧ Below w.heap.size w w' := by
  have hcap := (Im.E_in hm).l.cap
  have hTb := cTot_bulk m.l
  have hTb2 : cTot m.l ≤ 1500000 := by unfold Im.bulk at hbk; omega
  clear hTb
  obtain ⟨W1, hW1⟩ : ∃ W1, W1 = w.alloc (.cells #[.slice m.lA m.l.length m.lC, .int .i64 m.m] 31) := ⟨_, rfl⟩
  have b1 : Below w.heap.size w W1 := by rw [hW1]; exact (Below.refl _ _).alloc (Nat.le_refl _) _
  have z1 : w.heap.size < W1.heap.size := by rw [hW1]; simp
  have xa : Im.Box W1 w.heap.size m := by rw [hW1]; exact Im.Box.new _ _ _
  have XA := Lib.hid xa
  have HM := Lib.hid (hm.below (b1.mono hB))
  unfold Im.val
  obtain ⟨a0, a1⟩ := xa
  by_cases h0 : m.l.length = 0
  · have HQ : Hid (m.isIm cap = false) := Im.isIm_no (by rintro ⟨h, _⟩; omega)
    rw [h0] at hW1 a0 ⊢
    clear h0
    go_enter Try.func15, Try.ntmps15
    go_upto_region 1 with fail
    rw [← hW1]
    clear hW1
    go_wp2_with fail
    go_ret
    exact ⟨ret_bool HQ.out.symm, b1⟩
  · obtain ⟨q, hq⟩ : ∃ q, m.l.length = q + 1 := ⟨m.l.length - 1, by omega⟩
    have HQL := Lib.hid hq
    clear h0
    rw [hq] at hW1 a0 hcap ⊢
    by_cases h1 : 1500 ≤ q
    · have HQ : Hid (m.isIm cap = false) := Im.isIm_no (by rintro ⟨h, _⟩; omega)
      have h2 : (1500 : Int) ≤ (q : Int) := by omega
      clear hq h1
      go_enter Try.func15, Try.ntmps15
      go_upto_region 1 with fail
      rw [← hW1]
      clear hW1
      go_wp2_with fail
      go_ret
      exact ⟨ret_bool HQ.out.symm, b1⟩
    · have h2 : ¬ (1500 : Int) ≤ (q : Int) := by omega
      have hco := countInstrs_any m B W1 HM.out (by omega) (by omega)
      unfold Im.val at hco
      rw [hq] at hco
      obtain ⟨T, hT⟩ : ∃ T, T = cTot m.l := ⟨_, rfl⟩
      rw [← hT] at hco hTb2
      have HT := Lib.hid hT
      clear hT
      have HN : Hid (∀ h : ¬ (T ≤ 16000 ∧ m.m = (q : Int) ∧ (Cd.at' m.l m.m).p = 0 ∧ (Cd.at' m.l m.m).c = cap ∧ Cd.okTo false m.l (q + 1) = true ∧ m.l.all (fun c => (Cd.depths m.l c).isSome) = true), m.isIm cap = false) := fun h => Im.isIm_no (by rw [hq, ← HT.out]; rintro ⟨_, ⟨e1, e2, e3⟩, e4, e5, e6, _⟩; exact h ⟨e6, by omega, e2, e3, e4, e5⟩)
      clear hq
      go_enter Try.func15, Try.ntmps15
      go_upto_region 1 with fail
      rw [← hW1]
      clear hW1
      go_wp2_with fail
      clear a0 a1
      (with_reducible refine hco.mono ?_)
      clear hco
      rintro e w2 ⟨rfl, hb2⟩
      have z2 := hb2.size
      have b2 : Below w.heap.size w w2 := b1.trans (hb2.mono (by omega))
      have XA2 := Lib.hid (XA.out.below hb2 (by omega))
      have xa2 := XA2.out
      obtain ⟨a0, a1⟩ := xa2
      rw [HQL.out] at a0
      by_cases h3 : 16000 < T
      · have HQ := Lib.hid (HN.out (by rintro ⟨e, _⟩; omega))
        have h4 : (16000 : Int) < (T : Int) := by omega
        clear h3
        go_wp2_with fail
        go_ret
        exact ⟨ret_bool HQ.out.symm, b2⟩
      · have h4 : ¬ (16000 : Int) < (T : Int) := by omega
        by_cases h5 : m.m = (q : Int)
        · have e5 : (m.m != (q : Int)) = false := by simp [h5]
          have H5 := Lib.hid h5
          clear h5
          have hql : q < m.l.length := by rw [HQL.out]; omega
          have lq0 : (0 : Int) ≤ (q : Int) := by omega
          have lq : (q : Int) < (q : Int) + 1 := by omega
          have hm2 := HM.out.below (hb2.mono (by omega))
          obtain ⟨cb, co, eC, hblk, c0, c1, c2, c3, hci⟩ := Cd.at_ (Im.E_in hm2).l (i := q) (x := m.l[q]) (List.getElem?_eq_getElem hql)
          have HAT : Hid (m.l[q] = Cd.at' m.l m.m) := by show _ = _; rw [H5.out]; exact (Cd.at'_get hql).symm
          obtain ⟨c, hc⟩ : ∃ c, c = m.l[q] := ⟨_, rfl⟩
          rw [← hc] at c0 c1 c2 c3 HAT
          clear hc hci hm2
          have HEC := Lib.hid eC
          rw [eC] at a0
          clear eC
          by_cases h6 : c.p = 0
          · have e6 : (c.p != 0) = false := by simp [h6]
            have H6 := Lib.hid h6
            clear h6
            by_cases h7 : c.c = cap
            · have e7 : (c.c != cap) = false := by simp [h7]
              have H7 := Lib.hid h7
              clear h7
              have hac := areCodes_any m q B w2 hql (HM.out.below (hb2.mono (by omega))) (by omega)
              obtain ⟨X, hX⟩ : ∃ X, X = Cd.okTo false m.l (q + 1) := ⟨_, rfl⟩
              rw [← hX] at hac
              have HX := Lib.hid hX
              clear hX
              unfold Im.val at hac
              rw [HQL.out, HEC.out] at hac
              go_wp2_with fail
              clear a0 a1 c0 c1 c2 c3
              (with_reducible refine hac.mono ?_)
              clear hac
              rintro e w3 ⟨rfl, hb3⟩
              have z3 := hb3.size
              have b3 : Below w.heap.size w w3 := b2.trans (hb3.mono (by omega))
              have XA3 := Lib.hid (XA2.out.below hb3 (by omega))
              cases X
              · have HQ := Lib.hid (HN.out (by rw [← HX.out]; rintro ⟨_, _, _, _, e, _⟩; exact absurd e (by decide)))
                go_wp2_with fail
                go_ret
                exact ⟨ret_bool HQ.out.symm, b3⟩
              · have hok : Cd.okTo false m.l m.l.length = true := by rw [HQL.out]; exact HX.out.symm
                have hm3 := HM.out.below ((hb2.trans (hb3.mono (by omega))).mono (by omega))
                have hcon := conNoDep_any (.pointer (some ⟨w.heap.size, 0, none⟩)) (fun c => !(Cd.depths m.l c).isSome) m.lA m.lC m.l B w3 (Im.E_in hm3).l (by omega) (fun u x hu hx hxi => noDep_any m x w.heap.size B u (Cd.fit_all hok hx) (hm3.below (hu.mono (by omega))) hxi (by have := hu.size; omega) (XA3.out.below hu (by omega)) (by have := hu.size; omega))
                have hn4 := fun (w4 : World) (hb4 : Below w3.heap.size w3 w4) (hT4 : cTot m.l ≤ 16000) => namesEach_any m B w4 (hm3.below (hb4.mono (by omega))) (by have := hb4.size; omega) (fun c hc x hx hi => by have := Cd.names hok hc hx hi; omega) hT4 (by rw [HQL.out]; omega) (by rw [H5.out]; omega) (by rw [H5.out, HQL.out]; omega)
                have HE : Hid (m.once = m.tree) := Im.once_tree (by rw [H5.out]; omega) (fun c hc x hx hi => by have := Cd.names hok hc hx hi; rw [HQL.out] at this; rw [H5.out]; omega)
                have HIS : Hid (m.l.all (fun c => (Cd.depths m.l c).isSome) = true → m.isIm cap = m.tree) := fun h => Im.isIm_is (by rw [HQL.out]; omega) ⟨by rw [H5.out, HQL.out]; omega, by rw [← HAT.out]; exact H6.out, by rw [← HAT.out]; exact H7.out⟩ hok h (by rw [← HT.out]; omega)
                have HN4 := Lib.hid hn4
                have HALL : Hid ((m.l.any fun c => !(Cd.depths m.l c).isSome) = !(m.l.all fun c => (Cd.depths m.l c).isSome)) := by show _ = _; rw [← iall_any (fun c => (Cd.depths m.l c).isSome) m.l]; simp
                obtain ⟨Y, hY⟩ : ∃ Y, Y = m.l.all fun c => (Cd.depths m.l c).isSome := ⟨_, rfl⟩
                rw [HALL.out, ← hY, HQL.out, HEC.out] at hcon
                have HY := Lib.hid hY
                clear hY hm3 hok hn4
                obtain ⟨a0, a1⟩ := XA3.out
                rw [HQL.out, HEC.out] at a0
                go_wp2_with fail
                (with_reducible refine hcon.mono ?_)
                clear hcon a0 a1
                rintro e w4 ⟨rfl, hb4⟩
                have z4 := hb4.size
                have b4 : Below w.heap.size w w4 := b3.trans (hb4.mono (by omega))
                cases Y
                · have HQ := Lib.hid (HN.out (by rw [← HY.out]; rintro ⟨_, _, _, _, _, e⟩; exact absurd e (by decide)))
                  go_wp2_with fail
                  go_ret
                  exact ⟨ret_bool HQ.out.symm, b4⟩
                · have HQ := Lib.hid ((HIS.out HY.out.symm).trans HE.out.symm)
                  have hn5 := HN4.out w4 hb4 (by rw [← HT.out]; omega)
                  obtain ⟨a0, a1⟩ := XA3.out.below hb4 (by omega)
                  rw [HQL.out, HEC.out] at a0
                  unfold Im.val at hn5
                  rw [HQL.out, HEC.out] at hn5
                  obtain ⟨Z, hZ⟩ : ∃ Z, Z = m.once := ⟨_, rfl⟩
                  rw [← hZ] at hn5 HQ
                  clear hZ
                  go_wp2_with fail
                  (with_reducible refine hn5.mono ?_)
                  clear hn5 a0 a1
                  rintro e w5 ⟨rfl, hb5⟩
                  go_wp2_with fail
                  go_ret
                  exact ⟨ret_bool HQ.out.symm, b4.trans (hb5.mono (by omega))⟩
            · have e7 : (c.c != cap) = true := by simpa using h7
              have HQ := Lib.hid (HN.out (by rw [← HAT.out]; rintro ⟨_, _, _, e, _⟩; exact h7 e))
              clear h7
              go_wp2_with fail
              go_ret
              exact ⟨ret_bool HQ.out.symm, b2⟩
          · have e6 : (c.p != 0) = true := by simpa using h6
            have HQ := Lib.hid (HN.out (by rw [← HAT.out]; rintro ⟨_, _, e, _⟩; exact h6 e))
            clear h6
            go_wp2_with fail
            go_ret
            exact ⟨ret_bool HQ.out.symm, b2⟩
        · have e5 : (m.m != (q : Int)) = true := by simpa using h5
          have HQ := Lib.hid (HN.out (by rintro ⟨_, e, _⟩; exact h5 e))
          clear h5
          go_wp2_with fail
          go_ret
          exact ⟨ret_bool HQ.out.symm, b2⟩
end Go.Proofs.Ytpigpncbjckbcaa
