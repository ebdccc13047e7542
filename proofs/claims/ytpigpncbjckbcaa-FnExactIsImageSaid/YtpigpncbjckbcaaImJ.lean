/-
  The depths of the stack: the model (written by gen/imj.py).
-/
import Derived.Test.YtpigpncbjckbcaaImI
import Derived.Test.YtpigpncbjckbcaaScSets
import Derived.Deep.DeepCutAuto
namespace Go.Proofs.Ytpigpncbjckbcaa
open Go.RowKit

/-- The ways on, one after the other. -/
def dArrs (i d : Int) : List Int → List Int → Option (List Int) | [], ds => some ds | k :: r, ds => (dArr ds i k d).bind (dArrs i d r)
theorem dFol_go {ds : List Int} {i o a d : Int} (h : o ≠ 13 ∧ o ≠ 14 ∧ o ≠ 15 ∧ o ≠ 16) : dFol ds i o a d = dArrs i d [i + 1] ds := by
  unfold dFol
  rw [if_neg (by omega), if_neg h.2.2.1, if_neg h.2.2.2]
  simp [dArrs]
theorem dFol_jump {ds : List Int} {i o a d : Int} (h : o = 15) : dFol ds i o a d = dArrs i d [a] ds := by
  unfold dFol
  rw [if_neg (by omega), if_pos h]
  simp [dArrs]
theorem dFol_if {ds : List Int} {i o a d : Int} (h : o = 16) : dFol ds i o a d = dArrs i d [i + 1, a] ds := by
  unfold dFol
  rw [if_neg (by omega), if_neg (by omega), if_pos h]
  simp [dArrs]
theorem dFol_ret {ds : List Int} {i o a d : Int} (h : o = 14 ∨ o = 13) : dFol ds i o a d = if d = 0 then dArrs i d [] ds else none := by
  unfold dFol
  rw [if_pos h]
  rfl
theorem repV_map (v : Int) (k n : Nat) : repV v k n = (List.replicate k v ++ List.replicate (n - k) 0).map (Value.int .i64) := by simp [repV]
theorem rep_set (v : Int) {j n : Nat} (h : j < n) : (List.replicate j v ++ List.replicate (n - j) 0).set j v = List.replicate (j + 1) v ++ List.replicate (n - (j + 1)) 0 := by
  rw [List.set_append_right _ _ (by simp), List.length_replicate, Nat.sub_self]
  obtain ⟨q, hq⟩ : ∃ q, n - j = q + 1 := ⟨n - j - 1, by omega⟩
  rw [hq, List.replicate_succ, List.set_cons_zero, show n - (j + 1) = q by omega, List.replicate_succ', List.append_assoc]
  rfl

set_option maxRecDepth 100000 in
set_option maxHeartbeats 16000000 in
theorem l10Depths_any (m : Im) (c : Cd) (k : Nat) (B : Nat) (w : World) (hck : m.l[k]? = some c) (hfit : Cd.fit m.l c) (hm : Im.E.In w B m) (hB : B ≤ w.heap.size) :
    Calls Try.prog 31 #[Im.val m, .int .i64 (k : Int)] w (RetDep (Cd.depths m.l c) w) := by
  obtain ⟨W1, hW1⟩ : ∃ W1, W1 = w.alloc (.cells #[.slice m.lA m.l.length m.lC, .int .i64 m.m] 31) := ⟨_, rfl⟩
  have b1 : Below w.heap.size w W1 := by rw [hW1]; exact (Below.refl _ _).alloc (Nat.le_refl _) _
  have z1 : w.heap.size + 1 ≤ W1.heap.size := by rw [hW1]; simp
  have xa : Im.Box W1 w.heap.size m := by rw [hW1]; exact Im.Box.new _ _ _
  obtain ⟨⟨hn0, hn⟩, hfi⟩ := hfit
  obtain ⟨R, hR⟩ : ∃ R, R = Cd.depths m.l c := ⟨_, rfl⟩
  rw [← hR]
  have HR := Lib.hid hR
  clear hR
  have HFI := Lib.hid hfi
  clear hfi
  have hm1 := hm.below (b1.mono hB)
  have HM := Lib.hid hm1
  have hcs := (Im.E_in hm1).l
  have hkl : k < m.l.length := (List.getElem?_eq_some_iff.1 hck).1
  obtain ⟨cb, co, eC, hblk, c0, c1, c2, c3, hci⟩ := Cd.at_ hcs (i := k) (x := c) hck
  have hcapm := hcs.cap
  have hcl := (Cd.E_in hci).l
  obtain ⟨CA, hCA⟩ : ∃ A, A = c.lA := ⟨_, rfl⟩
  rw [← hCA] at hcl c3
  have HCL := Lib.hid hcl
  have hcap := hcl.cap
  clear hcl hci hcs hm1
  have XA := Lib.hid xa
  unfold Im.val
  obtain ⟨a0, a1⟩ := xa
  rw [eC] at a0
  obtain ⟨n, hnn⟩ : ∃ n, n = c.l.length := ⟨_, rfl⟩
  rw [← hnn] at c3 hn0 hn hcap
  have hmeta : c.l.length = n := hnn.symm
  have HMETA := Lib.hid hmeta
  clear hmeta hnn hCA eC c0 c1 c2
  have lk0 : (0 : Int) ≤ (k : Int) := by omega
  have lk : (k : Int) < (m.l.length : Int) := by omega
  have lb : cb < W1.heap.size := by omega
  have la : w.heap.size < W1.heap.size := by omega
  have ln0 : (0 : Int) ≤ (n : Int) := by omega
  have hnz : ((n : Int) == 0) = false := beq_eq_false_iff_ne.2 (by omega)
  obtain ⟨i0, hI0, hZ0, hZ1, hZ2⟩ := info_parts infoI_
  have hmk := fun W => run_make_rowI (P := Try.prog) 36 3 i0 _ Try.underlying36 hI0 hZ0 .i64 .i64 n n (Nat.le_refl _) (by rw [hZ2]; omega) (by omega) W
  rw [hZ1] at hmk
  have hmc : madeCells (Value.int .i64 0).cells (n * 1) = (repV (-1) 0 n).toArray := by
    rw [repV_zero]
    apply Array.ext
    · simp [madeCells]
    · intro i h1 h2
      simp [madeCells, Value.cells, Nat.mod_one]
  rw [hmc] at hmk
  clear hmc
  obtain ⟨g, hg⟩ : ∃ g, g = W1.heap.size := ⟨_, rfl⟩
  obtain ⟨W2, hW2⟩ : ∃ W2, W2 = W1.alloc (.cells (repV (-1) 0 n).toArray 3) := ⟨_, rfl⟩
  have b2 : Below W1.heap.size W1 W2 := by rw [hW2]; exact (Below.refl _ _).alloc (Nat.le_refl _) _
  have z2 : W2.heap.size = g + 1 := by rw [hW2, hg]; simp
  have HM2 : Hid (MR W2 g (List.replicate 0 (-1) ++ List.replicate (n - 0) 0)) := by
    show MR _ _ _
    unfold MR
    rw [← repV_map, hW2, hg]
    exact D.Blk.new _ _ _
  have gw : w.heap.size + 1 ≤ g := by omega
  have gw1 : W1.heap.size ≤ g := by omega
  have bb2 : Below g W1 W2 := by rw [hg]; exact b2
  go_enter Try.func31, Try.ntmps31
  go_upto_region 1 with fail
  rw [← hW1]
  clear hW1
  go_upto_region 3 with fail
  rw [← hW2, ← hg]
  clear hW2 hmk a0 a1 c3 lb la hg
  go_wp2_with fail
  go_loopw [28] (fun i wr => ∃ j : Nat, j ≤ n ∧ i = .int .i64 j ∧ Hid (MR wr g (List.replicate j (-1) ++ List.replicate (n - j) 0)) ∧ Below g W1 wr) (fun i _ => n - (intOf i).toNat)
  case atStart => exact ⟨0, Nat.zero_le _, rfl, HM2, bb2⟩
  case round =>
    obtain ⟨j, hj, rfl, HMR, hb3⟩ := hrel
    have hmr := HMR.out
    have hgl := hmr.lt
    by_cases hlt : j < n
    · have lj : (j : Int) < (n : Int) := by omega
      have lj0 : (0 : Int) ≤ (j : Int) := by omega
      have gc := hmr.cell (i := j) (by simp; omega)
      have gf := hmr.frozen j
      have HMS : Hid (MR (wr.setCell ⟨g, j, none⟩ (.int .i64 (-1))) g (List.replicate (j + 1) (-1) ++ List.replicate (n - (j + 1)) 0)) := by
        show MR _ _ _
        have := hmr.set j (-1)
        rwa [rep_set (-1) hlt] at this
      have hb4 : Below g W1 (wr.setCell ⟨g, j, none⟩ (.int .i64 (-1))) := hb3.setCell (Nat.le_refl _) _
      clear hmr
      go_wp2_with fail
      refine ⟨⟨j + 1, by omega, by go_num, HMS, hb4⟩, by simp [intOf]; omega⟩
    · have hj' : j = n := by omega
      subst hj'
      have hm3 : MR wr g (List.replicate j (-1)) := by simpa using hmr
      have gc := hm3.cell (i := 0) (by simp; omega)
      have gf := hm3.frozen 0
      obtain ⟨w4, hw4⟩ : ∃ W, W = wr.setCell ⟨g, 0, none⟩ (.int .i64 0) := ⟨_, rfl⟩
      have hm4 : MR w4 g (0 :: List.replicate (j - 1) (-1)) := by
        rw [hw4]
        have h := hm3.set 0 0
        obtain ⟨q, hq⟩ : ∃ q, j = q + 1 := ⟨j - 1, by omega⟩
        subst hq
        simpa [List.replicate_succ] using h
      have bb4 : Below g W1 w4 := by rw [hw4]; exact hb3.setCell (Nat.le_refl _) _
      have b4 : Below w.heap.size w w4 := b1.trans (bb4.mono (by omega))
      have z4 : w4.heap.size = wr.heap.size := by rw [hw4]; simp
      have XA4 := Lib.hid (XA.out.below bb4 (by omega))
      have HM4 := Lib.hid (HM.out.below (bb4.mono (by omega)))
      have HCL4 := Lib.hid (HCL.out.below (bb4.mono (by omega)))
      have HM5 := Lib.hid hm4
      clear XA HM HCL hm3 hm4 hmr HMR hb3 bb4 b2 bb2 HM2
      have hgl4 : g < w4.heap.size := by omega
      go_upto_region 11 with fail
      rw [← hw4]
      clear hw4 gc gf hgl
      obtain ⟨n, hnj⟩ : ∃ n, n = j := ⟨_, rfl⟩
      subst hnj
      go_wp2_with fail
      have H0 : Hid (dRun m.l (c.l.drop 0) 0 (0 :: List.replicate (n - 1) (-1)) = R) := by
        show _ = _
        rw [HR.out, List.drop_zero]
        unfold Cd.depths
        rw [if_neg (by rw [HMETA.out]; omega), HMETA.out]
      have K0 : Hid (dOk (0 :: List.replicate (n - 1) (-1))) := by
        show dOk _
        intro u hu
        rcases List.mem_cons.1 hu with rfl | hu
        · exact ⟨by decide, by decide⟩
        · rw [List.eq_of_mem_replicate hu]; exact ⟨by decide, by decide⟩
      go_loopw [42] (fun i wr => ∃ (j : Nat) (ds : List Int), j ≤ n ∧ i = .int .i64 j ∧ Hid (dRun m.l (c.l.drop j) j ds = R) ∧ Hid (ds.length = n) ∧ Hid (dOk ds) ∧ Hid (MR wr g ds) ∧ Chg [g] w4 wr) (fun i _ => n - (intOf i).toNat)
      case atStart => exact ⟨0, _, Nat.zero_le _, rfl, H0, (by show _ = _; simp; omega), K0, HM5, Chg.refl _ _⟩
      case round =>
        obtain ⟨j, ds, hj, rfl, HE, HL, HK, HMR, hcr⟩ := hrel
        obtain ⟨wo, hwo⟩ : ∃ W, W = wr := ⟨_, rfl⟩
        rw [← hwo] at HMR hcr ⊢
        clear hwo
        have zr := hcr.size
        have br : Below w.heap.size w4 wo := hcr.below (fun k hk => by simp at hk; omega) (by omega)
        have b5 : Below w.heap.size w wo := b4.trans br
        have hmr := HMR.out
        by_cases hlt : j < n
        · have lj : (j : Int) < (n : Int) := by omega
          have lj0 : (0 : Int) ≤ (j : Int) := by omega
          have hjl : j < c.l.length := by rw [HMETA.out]; exact hlt
          obtain ⟨eb, eo, rfl, hbl, d0, d1, d2, d3, d4, d5, hix⟩ := Nt.at_ (HCL4.out.below (br.mono hB)) (i := j) (x := c.l[j]) (List.getElem?_eq_getElem hjl)
          obtain ⟨x, hx⟩ : ∃ x, x = c.l[j] := ⟨_, rfl⟩
          have hdrop := dRun_drop (cs := m.l) (ds := ds) hjl
          obtain ⟨⟨ho, hx0, hx1⟩, hcap2⟩ := HFI.out c.l[j] (List.getElem_mem hjl)
          rw [← hx] at d0 d1 d2 d3 d4 d5 hix hdrop ho hx0 hx1 hcap2
          clear hx
          have heff := Nt.eff_in ho ⟨hx0, hx1⟩ hcap2
          have hret : x.o = 14 ∨ x.o = 13 → (x.eff m.l).2 = 0 := fun h => by unfold Nt.eff effO; rcases h with h | h <;> simp [h]
          have hee := specEff_any m x B
          obtain ⟨v, hv⟩ : ∃ v, v = ds.getD j 0 := ⟨_, rfl⟩
          have gv := hmr.cell (i := j) (by rw [HL.out]; exact hlt)
          have hvk := dOk_getD HK.out j
          rw [← hv] at gv hvk
          have HV := Lib.hid hv
          have HD := Lib.hid hdrop
          clear hv hdrop
          obtain ⟨W5, hW5⟩ : ∃ W5, W5 = wo.alloc (.cells #[.int .i64 x.o, .int .i64 x.i, .int .i64 x.t.k, .int .i64 x.t.n, .string x.t.t, .slice x.t.A x.t.l.length x.t.c] 53) := ⟨_, rfl⟩
          have bx : Below wo.heap.size wo W5 := by rw [hW5]; exact (Below.refl _ _).alloc (Nat.le_refl _) _
          have zx : wo.heap.size < W5.heap.size := by rw [hW5]; simp
          have xb : Nt.Box W5 wo.heap.size x := by rw [hW5]; exact Nt.Box.new _ _ _
          have hgr : g < wo.heap.size := by omega
          have hm5 := hmr.below bx hgr
          have gv5 := (bx.cell (p := ⟨g, j, none⟩) hgr).trans gv
          have XM5 := ((XA4.out.chg hcr (by omega) (by simp; omega)).below bx (by omega))
          have c5 : Chg [g] w4 W5 := hcr.trans (Chg.of_below bx)
          have b6 : Below w.heap.size w W5 := b5.trans (bx.mono (by omega))
          have hm6 := (HM4.out.below (br.mono (by omega))).below (bx.mono (by omega))
          have lb : eb < wo.heap.size := by omega
          have HM6 := Lib.hid hm6
          have XB := Lib.hid xb
          have XM := Lib.hid XM5
          have HM5b := Lib.hid hm5
          clear hm6 hm5 hmr gv HM4 HCL4 XM5
          go_upto_region 14 with fail
          rw [← hW5]
          clear hW5 d0 d1 d2 d3 d4 d5 lb
          by_cases hv0 : v < 0
          · have HS : Hid (dRun m.l (c.l.drop (j + 1)) (j + 1) ds = R) := by
              show _ = _
              rw [← HE.out, HD.out]
              unfold dStep
              rw [← HV.out, if_pos hv0]
              rfl
            go_wp2_with fail
            refine ⟨⟨j + 1, ds, by omega, by go_num, HS, HL, HK, HM5b, c5⟩, by simp [intOf]; omega⟩
          · have hst : dStep m.l ds j x = if v < (x.eff m.l).1 ∨ 500 < v - (x.eff m.l).1 + (x.eff m.l).2 then none else dFol ds j x.o x.i (v - (x.eff m.l).1 + (x.eff m.l).2) := by
              unfold dStep
              rw [← HV.out, if_neg hv0]
            have hec := hee W5 ho hx0 hx1 (fun h => (hcap2 h).1) HM6.out (by omega)
            obtain ⟨tk, htk⟩ : ∃ t, t = (x.eff m.l).1 := ⟨_, rfl⟩
            obtain ⟨lv, hlv⟩ : ∃ t, t = (x.eff m.l).2 := ⟨_, rfl⟩
            rw [← htk, ← hlv] at hst hec heff
            rw [← hlv] at hret
            obtain ⟨S, hS⟩ : ∃ S, S = dStep m.l ds j x := ⟨_, rfl⟩
            rw [← hS] at hst
            have HN2 : Hid (R = S.bind (dRun m.l (c.l.drop (j + 1)) (j + 1))) := by show _ = _; rw [← HE.out, HD.out, hS]
            have HST := Lib.hid hst
            have HRET := Lib.hid hret
            obtain ⟨⟨ht0, ht1⟩, hl0, hl1⟩ := heff
            obtain ⟨hv1, hv2⟩ := hvk
            clear htk hlv hS hst hee hret hcap2
            unfold Im.val Nt.val at hec
            obtain ⟨a0, a1⟩ := XM.out
            obtain ⟨d0, d1, d2, d3, d4, d5⟩ := XB.out
            go_wp2_with fail
            clear a0 a1 d0 d1 d2 d3 d4 d5
            (with_reducible refine hec.mono ?_)
            clear hec
            rintro e w6 ⟨rfl, hb6⟩
            have z6 := hb6.size
            have gv6 := (hb6.cell (p := ⟨g, j, none⟩) (show g < W5.heap.size by omega)).trans gv5
            have hm7 := HM5b.out.below hb6 (by omega)
            have c6 : Chg [g] w4 w6 := c5.trans (Chg.of_below hb6)
            have b7 : Below w.heap.size w w6 := b6.trans (hb6.mono (by omega))
            have XB6 := Lib.hid (XB.out.below hb6 zx)
            obtain ⟨d0, d1, d2, d3, d4, d5⟩ := XB6.out
            clear gv5
            by_cases h1 : v - tk < 0
            · have HQ : Hid (R = none) := by show _ = _; rw [HN2.out, HST.out, if_pos (.inl (by omega))]; rfl
              go_wp2_with fail
              go_ret2
              exact RetDep.no HQ b7
            · by_cases h2 : 500 < v - tk + lv
              · have HQ : Hid (R = none) := by show _ = _; rw [HN2.out, HST.out, if_pos (.inr h2)]; rfl
                go_wp2_with fail
                go_ret2
                exact RetDep.no HQ b7
              · have HST2 : Hid (S = dFol ds j x.o x.i (v - tk + lv)) := by show _ = _; rw [HST.out, if_neg (by omega)]
                have hDr := Lib.hid (show -1 ≤ v - tk + lv ∧ v - tk + lv ≤ 500 by omega)
                have HR2 := HN2
                have hgw6 : g < w6.heap.size := by omega
                by_cases hk : x.o = 14
                · skip
                  have hl00 := HRET.out (.inl hk)
                  have HFO : Hid (S = if v - tk + lv = 0 then dArrs j (v - tk + lv) [] ds else none) := by show _ = _; rw [HST2.out, dFol_ret (.inl hk)]
                  have e14 : (x.o == 14) = true := by rw [hk]; rfl
                  have e13 : (x.o == 13) = false := by rw [hk]; rfl
                  clear hk
                  by_cases hd0 : v - tk = 0
                  · have hd1 : (v - tk != 0) = false := by simp [hd0]
                    have HA : Hid (dArrs j (v - tk + lv) (([] : List Int).drop 0) ds = S) := by show _ = _; rw [HFO.out, if_pos (by omega)]; rfl
                    clear hd0 hl00
                    obtain ⟨W7, hW7⟩ : ∃ W7, W7 = w6.alloc (.cells #[.int .i64 ((j : Int) + 1)] 3) := ⟨_, rfl⟩
                    have bn : Below w6.heap.size w6 W7 := by rw [hW7]; exact (Below.refl _ _).alloc (Nat.le_refl _) _
                    have zn : w6.heap.size + 1 ≤ W7.heap.size ∧ W7.heap.size ≤ w6.heap.size + 1 := by rw [hW7]; simp
                    go_upto_region 20 with fail
                    rw [← hW7]
                    clear hW7 d0 d1 d2 d3 d4 d5
                    obtain ⟨d0, d1, d2, d3, d4, d5⟩ := XB6.out.below bn (by omega)
                    go_wp2_with fail
                    clear d0 d1 d2 d3 d4 d5
                    obtain ⟨wn, hwn⟩ : ∃ W, W = W7 := ⟨_, rfl⟩
                    rw [← hwn] at bn ⊢
                    clear hwn
                    have cn : Chg [g] w4 wn := c6.trans (Chg.of_below bn)
                    have HMn := Lib.hid (hm7.below bn hgw6)
                    have HIN : Hid (IIn wn wn.heap.size (none) 0 ([] : List Int)) := by show IIn _ _ _ _ _; exact IIn.nil_ (by omega) (fun _ => rfl)
                    go_loopw [112] (fun s wz => ∃ (i : Nat) (es : List Int), i ≤ 0 ∧ s = .int .i64 i ∧ Hid (dArrs j (v - tk + lv) (([] : List Int).drop i) es = S) ∧ Hid (es.length = n) ∧ Hid (dOk es) ∧ Hid (MR wz g es) ∧ Hid (IIn wz wn.heap.size (none) 0 ([] : List Int)) ∧ Chg [g] w4 wz ∧ wn.heap.size ≤ wz.heap.size) (fun s _ => 0 - (intOf s).toNat)
                    case atStart => exact ⟨0, ds, Nat.zero_le _, rfl, HA, HL, HK, HMn, HIN, cn, Nat.le_refl _⟩
                    case round =>
                      obtain ⟨i, es, hi, rfl, HE2, HL2, HK2, HM2, HI2, hcz, zzl⟩ := hrel
                      obtain ⟨wz, hwz⟩ : ∃ W, W = wr := ⟨_, rfl⟩
                      rw [← hwz] at HM2 HI2 hcz zzl ⊢
                      clear hwz
                      have b9 : Below w.heap.size w wz := b4.trans (hcz.below (fun k hk => by simp at hk; omega) (by omega))
                      have hm9 := HM2.out
                      have HQ : Hid (dRun m.l (c.l.drop (j + 1)) (j + 1) es = R) := by
                        show _ = _
                        have h2 : S = some es := by rw [← HE2.out, List.drop_eq_nil_of_le (by simp <;> omega)]; rfl
                        rw [HN2.out, h2]; rfl
                      go_wp2_with fail
                      refine ⟨⟨j + 1, es, by omega, by go_num, HQ, HL2, HK2, HM2, hcz⟩, by simp [intOf]; omega⟩
                  · have hd1 : (v - tk != 0) = true := by simpa using hd0
                    have HQ : Hid (R = none) := by show _ = _; rw [HN2.out, HFO.out, if_neg (by omega)]; rfl
                    go_wp2_with fail
                    go_ret2
                    exact RetDep.no HQ b7
                · have n14 : x.o ≠ 14 := hk
                  clear hk
                  by_cases hk : x.o = 13
                  · have n14b := n14
                    have hl00 := HRET.out (.inr hk)
                    have HFO : Hid (S = if v - tk + lv = 0 then dArrs j (v - tk + lv) [] ds else none) := by show _ = _; rw [HST2.out, dFol_ret (.inr hk)]
                    have e14 : (x.o == 14) = false := by rw [hk]; rfl
                    have e13 : (x.o == 13) = true := by rw [hk]; rfl
                    clear hk
                    by_cases hd0 : v - tk = 0
                    · have hd1 : (v - tk != 0) = false := by simp [hd0]
                      have HA : Hid (dArrs j (v - tk + lv) (([] : List Int).drop 0) ds = S) := by show _ = _; rw [HFO.out, if_pos (by omega)]; rfl
                      clear hd0 hl00
                      obtain ⟨W7, hW7⟩ : ∃ W7, W7 = w6.alloc (.cells #[.int .i64 ((j : Int) + 1)] 3) := ⟨_, rfl⟩
                      have bn : Below w6.heap.size w6 W7 := by rw [hW7]; exact (Below.refl _ _).alloc (Nat.le_refl _) _
                      have zn : w6.heap.size + 1 ≤ W7.heap.size ∧ W7.heap.size ≤ w6.heap.size + 1 := by rw [hW7]; simp
                      go_upto_region 20 with fail
                      rw [← hW7]
                      clear hW7 d0 d1 d2 d3 d4 d5
                      obtain ⟨d0, d1, d2, d3, d4, d5⟩ := XB6.out.below bn (by omega)
                      go_wp2_with fail
                      clear d0 d1 d2 d3 d4 d5
                      obtain ⟨wn, hwn⟩ : ∃ W, W = W7 := ⟨_, rfl⟩
                      rw [← hwn] at bn ⊢
                      clear hwn
                      have cn : Chg [g] w4 wn := c6.trans (Chg.of_below bn)
                      have HMn := Lib.hid (hm7.below bn hgw6)
                      have HIN : Hid (IIn wn wn.heap.size (none) 0 ([] : List Int)) := by show IIn _ _ _ _ _; exact IIn.nil_ (by omega) (fun _ => rfl)
                      go_loopw [112] (fun s wz => ∃ (i : Nat) (es : List Int), i ≤ 0 ∧ s = .int .i64 i ∧ Hid (dArrs j (v - tk + lv) (([] : List Int).drop i) es = S) ∧ Hid (es.length = n) ∧ Hid (dOk es) ∧ Hid (MR wz g es) ∧ Hid (IIn wz wn.heap.size (none) 0 ([] : List Int)) ∧ Chg [g] w4 wz ∧ wn.heap.size ≤ wz.heap.size) (fun s _ => 0 - (intOf s).toNat)
                      case atStart => exact ⟨0, ds, Nat.zero_le _, rfl, HA, HL, HK, HMn, HIN, cn, Nat.le_refl _⟩
                      case round =>
                        obtain ⟨i, es, hi, rfl, HE2, HL2, HK2, HM2, HI2, hcz, zzl⟩ := hrel
                        obtain ⟨wz, hwz⟩ : ∃ W, W = wr := ⟨_, rfl⟩
                        rw [← hwz] at HM2 HI2 hcz zzl ⊢
                        clear hwz
                        have b9 : Below w.heap.size w wz := b4.trans (hcz.below (fun k hk => by simp at hk; omega) (by omega))
                        have hm9 := HM2.out
                        have HQ : Hid (dRun m.l (c.l.drop (j + 1)) (j + 1) es = R) := by
                          show _ = _
                          have h2 : S = some es := by rw [← HE2.out, List.drop_eq_nil_of_le (by simp <;> omega)]; rfl
                          rw [HN2.out, h2]; rfl
                        go_wp2_with fail
                        refine ⟨⟨j + 1, es, by omega, by go_num, HQ, HL2, HK2, HM2, hcz⟩, by simp [intOf]; omega⟩
                    · have hd1 : (v - tk != 0) = true := by simpa using hd0
                      have HQ : Hid (R = none) := by show _ = _; rw [HN2.out, HFO.out, if_neg (by omega)]; rfl
                      go_wp2_with fail
                      go_ret2
                      exact RetDep.no HQ b7
                  · have n13 : x.o ≠ 13 := hk
                    clear hk
                    by_cases hk : x.o = 15
                    · skip
                      have e14 : (x.o == 14) = false := by simpa using n14
                      have e13 : (x.o == 13) = false := by simpa using n13
                      have e15 : (x.o == 15) = true := by rw [hk]; rfl
                      have HA : Hid (dArrs j (v - tk + lv) (([x.i] : List Int).drop 0) ds = S) := by show _ = _; rw [HST2.out, dFol_jump hk]; rfl
                      clear hk n14 n13
                      obtain ⟨W7, hW7⟩ : ∃ W7, W7 = w6.alloc (.cells #[.int .i64 ((j : Int) + 1)] 3) := ⟨_, rfl⟩
                      have bn : Below w6.heap.size w6 W7 := by rw [hW7]; exact (Below.refl _ _).alloc (Nat.le_refl _) _
                      have zn : w6.heap.size + 1 ≤ W7.heap.size ∧ W7.heap.size ≤ w6.heap.size + 1 := by rw [hW7]; simp
                      have gn : D.Blk W7 w6.heap.size 3 #[.int .i64 ((j : Int) + 1)] := by rw [hW7]; exact D.Blk.new _ _ _
                      obtain ⟨W8, hW8⟩ : ∃ W8, W8 = W7.alloc (.cells #[.int .i64 x.i] 3) := ⟨_, rfl⟩
                      have bn2 : Below w6.heap.size w6 W8 := by rw [hW8]; exact bn.alloc (by omega) _
                      have gn : D.Blk W8 W7.heap.size 3 #[.int .i64 x.i] := by rw [hW8]; exact D.Blk.new _ _ _
                      have zn2 : W7.heap.size + 1 ≤ W8.heap.size ∧ W8.heap.size ≤ W7.heap.size + 1 := by rw [hW8]; simp
                      obtain ⟨wq, hwq⟩ : ∃ q, q = W7.heap.size := ⟨_, rfl⟩
                      rw [← hwq] at gn
                      have HIN : Hid (IIn W8 W8.heap.size (some ⟨wq, 0, none⟩) 1 ([x.i] : List Int)) := by
                        refine ⟨⟨Nat.le_refl _, by omega⟩, fun e => (by cases e), fun _ => ⟨wq, 0, rfl, by omega, fun i u hu => ?_⟩⟩
                        have h0 : i = 0 := by have := (List.getElem?_eq_some_iff.1 hu).1; simp at this; omega
                        subst h0
                        simp at hu
                        subst hu
                        exact gn.cell 0
                      have HNG : Hid (∀ z ∈ iblk (some ⟨wq, 0, none⟩ : Option Addr) ([x.i] : List Int), z ≠ g) := by intro z hz; simp [iblk] at hz; omega
                      go_upto_region 20 with fail
                      rw [← hW7]
                      clear hW7 d0 d1 d2 d3 d4 d5
                      obtain ⟨d0, d1, d2, d3, d4, d5⟩ := XB6.out.below bn (by omega)
                      go_upto_region 28 with fail
                      rw [← hW8, ← hwq]
                      clear hW8 hwq d0 d1 d2 d3 d4 d5
                      go_wp2_with fail
                      obtain ⟨wn, hwn⟩ : ∃ W, W = W8 := ⟨_, rfl⟩
                      rw [← hwn] at bn2 HIN ⊢
                      clear hwn
                      have cn : Chg [g] w4 wn := c6.trans (Chg.of_below bn2)
                      have HMn := Lib.hid (hm7.below bn2 hgw6)
                      go_loopw [112] (fun s wz => ∃ (i : Nat) (es : List Int), i ≤ 1 ∧ s = .int .i64 i ∧ Hid (dArrs j (v - tk + lv) (([x.i] : List Int).drop i) es = S) ∧ Hid (es.length = n) ∧ Hid (dOk es) ∧ Hid (MR wz g es) ∧ Hid (IIn wz wn.heap.size (some ⟨wq, 0, none⟩) 1 ([x.i] : List Int)) ∧ Chg [g] w4 wz ∧ wn.heap.size ≤ wz.heap.size) (fun s _ => 1 - (intOf s).toNat)
                      case atStart => exact ⟨0, ds, Nat.zero_le _, rfl, HA, HL, HK, HMn, HIN, cn, Nat.le_refl _⟩
                      case round =>
                        obtain ⟨i, es, hi, rfl, HE2, HL2, HK2, HM2, HI2, hcz, zzl⟩ := hrel
                        obtain ⟨wz, hwz⟩ : ∃ W, W = wr := ⟨_, rfl⟩
                        rw [← hwz] at HM2 HI2 hcz zzl ⊢
                        clear hwz
                        have b9 : Below w.heap.size w wz := b4.trans (hcz.below (fun k hk => by simp at hk; omega) (by omega))
                        have hm9 := HM2.out
                        by_cases hil : i < 1
                        · have li : (i : Int) < 1 := by omega
                          have li0 : (0 : Int) ≤ (i : Int) := by omega
                          obtain ⟨pb, po, eP, hpb, pc⟩ := HI2.out.at_ (i := i) (show i < ([x.i] : List Int).length by simpa using hil)
                          have hdr : dArrs j (v - tk + lv) (([x.i] : List Int).drop i) es = (dArr es j ([x.i] : List Int)[i] (v - tk + lv)).bind (dArrs j (v - tk + lv) (([x.i] : List Int).drop (i + 1))) := by rw [List.drop_eq_getElem_cons (show i < ([x.i] : List Int).length by simpa using hil), dArrs]
                          obtain ⟨q, hq⟩ : ∃ q, q = ([x.i] : List Int)[i] := ⟨_, rfl⟩
                          rw [← hq] at pc hdr
                          have HDR := Lib.hid hdr
                          have EP := Lib.hid eP
                          clear hq hdr eP
                          obtain ⟨rfl, rfl⟩ : pb = wq ∧ po = 0 := by have := EP.out; simp at this; exact ⟨this.1.symm, this.2.symm⟩
                          clear EP
                          rw [Nat.zero_add] at pc
                          by_cases a1 : q ≤ (j : Int)
                          · skip
                            have HQ : Hid (R = none) := by
                              show _ = _
                              rw [HR2.out, ← HE2.out, HDR.out]
                              have : dArr es j q (v - tk + lv) = none := by unfold dArr; rw [if_pos (.inl a1)]
                              rw [this]; rfl
                            go_wp2_with fail
                            go_ret2
                            exact RetDep.no HQ b9
                          · by_cases a2 : (n : Int) ≤ q
                            · skip
                              have HQ : Hid (R = none) := by
                                show _ = _
                                rw [HR2.out, ← HE2.out, HDR.out]
                                have : dArr es j q (v - tk + lv) = none := by unfold dArr; rw [if_pos (.inr (by rw [HL2.out]; exact a2))]
                                rw [this]; rfl
                              go_wp2_with fail
                              go_ret2
                              exact RetDep.no HQ b9
                            · obtain ⟨kk, rfl⟩ : ∃ kk : Nat, q = kk := ⟨q.toNat, by omega⟩
                              have hkk : kk < es.length := by rw [HL2.out]; omega
                              have kk0 : (0 : Int) ≤ (kk : Int) := by omega
                              have kk1 : (kk : Int) < (n : Int) := by omega
                              have gk := hm9.cell hkk
                              have gf := hm9.frozen kk
                              obtain ⟨u, hu⟩ : ∃ u, u = es.getD kk 0 := ⟨_, rfl⟩
                              rw [← hu] at gk
                              have HDA : Hid (dArr es j (kk : Int) (v - tk + lv) = if 0 ≤ u ∧ u ≠ (v - tk + lv) then none else some (es.set kk (v - tk + lv))) := by show _ = _; unfold dArr; rw [if_neg (by rw [HL2.out]; omega), Int.toNat_natCast, ← hu]
                              clear hu
                              have HSY : Hid (¬ (0 ≤ u ∧ u ≠ (v - tk + lv)) → dArrs j (v - tk + lv) (([x.i] : List Int).drop (i + 1)) (es.set kk (v - tk + lv)) = S) := fun h => by rw [← HE2.out, HDR.out, HDA.out, if_neg h]; rfl
                              by_cases a3 : 0 ≤ u
                              · by_cases a4 : u = (v - tk + lv)
                                · have hq4 : (u != (v - tk + lv)) = false := by simp [a4]
                                  have A4 := Lib.hid a4
                                  clear a4
                                  have HS2 := Lib.hid (HSY.out (fun h => h.2 A4.out))
                                  obtain ⟨wy, hwy⟩ : ∃ W, W = wz.setCell ⟨g, kk, none⟩ (.int .i64 (v - tk + lv)) := ⟨_, rfl⟩
                                  have HM3 : Hid (MR wy g (es.set kk (v - tk + lv))) := by show MR _ _ _; rw [hwy]; exact hm9.set kk (v - tk + lv)
                                  have HI3 := Lib.hid (HI2.out.keep (w' := wy) (fun k hk => by rw [hwy]; exact Below.heap_setCell _ _ _ _ (HNG.out k hk)))
                                  have cy : Chg [g] w4 wy := by rw [hwy]; exact hcz.setCell (.inl (by simp)) _
                                  have zy : wn.heap.size ≤ wy.heap.size := by rw [hwy]; simpa using zzl
                                  have HL3 : Hid ((es.set kk (v - tk + lv)).length = n) := by show _ = _; rw [List.length_set]; exact HL2.out
                                  have HK3 := Lib.hid (dOk_set HK2.out kk hDr.out)
                                  go_upto_region 34 with fail
                                  rw [← hwy]
                                  clear hwy
                                  go_wp2_with fail
                                  refine ⟨⟨i + 1, es.set kk (v - tk + lv), by omega, by go_num, HS2, HL3, HK3, HM3, HI3, cy, zy⟩, by simp [intOf]; omega⟩
                                · have hq4 : (u != (v - tk + lv)) = true := by simpa using a4
                                  have HQ : Hid (R = none) := by show _ = _; rw [HR2.out, ← HE2.out, HDR.out, HDA.out, if_pos ⟨a3, a4⟩]; rfl
                                  go_wp2_with fail
                                  go_ret2
                                  exact RetDep.no HQ b9
                              · skip
                                have HS2 := Lib.hid (HSY.out (fun h => a3 h.1))
                                obtain ⟨wy, hwy⟩ : ∃ W, W = wz.setCell ⟨g, kk, none⟩ (.int .i64 (v - tk + lv)) := ⟨_, rfl⟩
                                have HM3 : Hid (MR wy g (es.set kk (v - tk + lv))) := by show MR _ _ _; rw [hwy]; exact hm9.set kk (v - tk + lv)
                                have HI3 := Lib.hid (HI2.out.keep (w' := wy) (fun k hk => by rw [hwy]; exact Below.heap_setCell _ _ _ _ (HNG.out k hk)))
                                have cy : Chg [g] w4 wy := by rw [hwy]; exact hcz.setCell (.inl (by simp)) _
                                have zy : wn.heap.size ≤ wy.heap.size := by rw [hwy]; simpa using zzl
                                have HL3 : Hid ((es.set kk (v - tk + lv)).length = n) := by show _ = _; rw [List.length_set]; exact HL2.out
                                have HK3 := Lib.hid (dOk_set HK2.out kk hDr.out)
                                go_upto_region 34 with fail
                                rw [← hwy]
                                clear hwy
                                go_wp2_with fail
                                refine ⟨⟨i + 1, es.set kk (v - tk + lv), by omega, by go_num, HS2, HL3, HK3, HM3, HI3, cy, zy⟩, by simp [intOf]; omega⟩
                        · skip
                          have HQ : Hid (dRun m.l (c.l.drop (j + 1)) (j + 1) es = R) := by
                            show _ = _
                            have h2 : S = some es := by rw [← HE2.out, List.drop_eq_nil_of_le (by simp <;> omega)]; rfl
                            rw [HN2.out, h2]; rfl
                          go_wp2_with fail
                          refine ⟨⟨j + 1, es, by omega, by go_num, HQ, HL2, HK2, HM2, hcz⟩, by simp [intOf]; omega⟩
                    · have n15 : x.o ≠ 15 := hk
                      clear hk
                      by_cases hk : x.o = 16
                      · skip
                        have e14 : (x.o == 14) = false := by simpa using n14
                        have e13 : (x.o == 13) = false := by simpa using n13
                        have e15 : (x.o == 15) = false := by rw [hk]; rfl
                        have e16 : (x.o == 16) = true := by rw [hk]; rfl
                        have HA : Hid (dArrs j (v - tk + lv) (([(j : Int) + 1, x.i] : List Int).drop 0) ds = S) := by show _ = _; rw [HST2.out, dFol_if hk]; rfl
                        clear hk n14 n13
                        obtain ⟨W7, hW7⟩ : ∃ W7, W7 = w6.alloc (.cells #[.int .i64 ((j : Int) + 1)] 3) := ⟨_, rfl⟩
                        have bn : Below w6.heap.size w6 W7 := by rw [hW7]; exact (Below.refl _ _).alloc (Nat.le_refl _) _
                        have zn : w6.heap.size + 1 ≤ W7.heap.size ∧ W7.heap.size ≤ w6.heap.size + 1 := by rw [hW7]; simp
                        have gn : D.Blk W7 w6.heap.size 3 #[.int .i64 ((j : Int) + 1)] := by rw [hW7]; exact D.Blk.new _ _ _
                        have hown : W7.ownsRow w6.heap.size 3 1 (.slice (some ⟨w6.heap.size, 0, none⟩) 1 1) ([(j : Int) + 1] : List Int).length (([(j : Int) + 1] : List Int).map (Value.int .i64)) := by rw [hW7]; exact World.ownsRow_lit w6 #[.int .i64 ((j : Int) + 1)] 1 (Nat.le_refl _) (by unfold maxLen; omega) rfl
                        clear gn
                        go_upto_region 20 with fail
                        rw [← hW7]
                        clear hW7 d0 d1 d2 d3 d4 d5
                        obtain ⟨d0, d1, d2, d3, d4, d5⟩ := XB6.out.below bn (by omega)
                        go_wp2_with (at_builtin; go_loud (refine wpList_append_own _ rfl (.tmp 105) (.tmp 108) 36 rfl w6.heap.size 3 i0 (.int .i64 0) 1 8 Try.underlying36 hI0 hZ0 hZ1 hZ2 rfl (by decide) _ 1 (([(j : Int) + 1] : List Int).map (Value.int .i64)) rfl (hown.alloc _) ⟨W7.heap.size, 0, none⟩ 1 1 [.int .i64 x.i] rfl rfl (inews _ _) (ione _) (by unfold maxLen; omega) (by omega) (by simp <;> omega) ?_))
                        intro v' wn hown' hgr2 _
                        obtain ⟨r1, bn2, r3⟩ := igrow bn (by omega) hown hown' hgr2
                        clear hown' hgr2 hown d0 d1 d2 d3 d4 d5
                        obtain ⟨PA, cA, rfl, hoa⟩ := own_of_row r1
                        have HIN : Hid (IIn wn wn.heap.size PA cA ([(j : Int) + 1, x.i] : List Int)) := hoa.inn
                        have HNG : Hid (∀ z ∈ iblk PA ([(j : Int) + 1, x.i] : List Int), z ≠ g) := fun z hz => by have := hoa.lo_ z hz; omega
                        have hca := hoa.inn.cap
                        clear r1 hoa
                        have cn : Chg [g] w4 wn := c6.trans (Chg.of_below bn2)
                        have HMn := Lib.hid (hm7.below bn2 hgw6)
                        go_wp2_with fail
                        go_loopw [112] (fun s wz => ∃ (i : Nat) (es : List Int), i ≤ 2 ∧ s = .int .i64 i ∧ Hid (dArrs j (v - tk + lv) (([(j : Int) + 1, x.i] : List Int).drop i) es = S) ∧ Hid (es.length = n) ∧ Hid (dOk es) ∧ Hid (MR wz g es) ∧ Hid (IIn wz wn.heap.size (PA) cA ([(j : Int) + 1, x.i] : List Int)) ∧ Chg [g] w4 wz ∧ wn.heap.size ≤ wz.heap.size) (fun s _ => 2 - (intOf s).toNat)
                        case atStart => exact ⟨0, ds, Nat.zero_le _, rfl, HA, HL, HK, HMn, HIN, cn, Nat.le_refl _⟩
                        case round =>
                          obtain ⟨i, es, hi, rfl, HE2, HL2, HK2, HM2, HI2, hcz, zzl⟩ := hrel
                          obtain ⟨wz, hwz⟩ : ∃ W, W = wr := ⟨_, rfl⟩
                          rw [← hwz] at HM2 HI2 hcz zzl ⊢
                          clear hwz
                          have b9 : Below w.heap.size w wz := b4.trans (hcz.below (fun k hk => by simp at hk; omega) (by omega))
                          have hm9 := HM2.out
                          by_cases hil : i < 2
                          · have li : (i : Int) < 2 := by omega
                            have li0 : (0 : Int) ≤ (i : Int) := by omega
                            obtain ⟨pb, po, eP, hpb, pc⟩ := HI2.out.at_ (i := i) (show i < ([(j : Int) + 1, x.i] : List Int).length by simpa using hil)
                            have hdr : dArrs j (v - tk + lv) (([(j : Int) + 1, x.i] : List Int).drop i) es = (dArr es j ([(j : Int) + 1, x.i] : List Int)[i] (v - tk + lv)).bind (dArrs j (v - tk + lv) (([(j : Int) + 1, x.i] : List Int).drop (i + 1))) := by rw [List.drop_eq_getElem_cons (show i < ([(j : Int) + 1, x.i] : List Int).length by simpa using hil), dArrs]
                            obtain ⟨q, hq⟩ : ∃ q, q = ([(j : Int) + 1, x.i] : List Int)[i] := ⟨_, rfl⟩
                            rw [← hq] at pc hdr
                            have HDR := Lib.hid hdr
                            have EP := Lib.hid eP
                            clear hq hdr eP
                            have hPe := EP.out
                            clear EP
                            subst hPe
                            by_cases a1 : q ≤ (j : Int)
                            · skip
                              have HQ : Hid (R = none) := by
                                show _ = _
                                rw [HR2.out, ← HE2.out, HDR.out]
                                have : dArr es j q (v - tk + lv) = none := by unfold dArr; rw [if_pos (.inl a1)]
                                rw [this]; rfl
                              go_wp2_with fail
                              go_ret2
                              exact RetDep.no HQ b9
                            · by_cases a2 : (n : Int) ≤ q
                              · skip
                                have HQ : Hid (R = none) := by
                                  show _ = _
                                  rw [HR2.out, ← HE2.out, HDR.out]
                                  have : dArr es j q (v - tk + lv) = none := by unfold dArr; rw [if_pos (.inr (by rw [HL2.out]; exact a2))]
                                  rw [this]; rfl
                                go_wp2_with fail
                                go_ret2
                                exact RetDep.no HQ b9
                              · obtain ⟨kk, rfl⟩ : ∃ kk : Nat, q = kk := ⟨q.toNat, by omega⟩
                                have hkk : kk < es.length := by rw [HL2.out]; omega
                                have kk0 : (0 : Int) ≤ (kk : Int) := by omega
                                have kk1 : (kk : Int) < (n : Int) := by omega
                                have gk := hm9.cell hkk
                                have gf := hm9.frozen kk
                                obtain ⟨u, hu⟩ : ∃ u, u = es.getD kk 0 := ⟨_, rfl⟩
                                rw [← hu] at gk
                                have HDA : Hid (dArr es j (kk : Int) (v - tk + lv) = if 0 ≤ u ∧ u ≠ (v - tk + lv) then none else some (es.set kk (v - tk + lv))) := by show _ = _; unfold dArr; rw [if_neg (by rw [HL2.out]; omega), Int.toNat_natCast, ← hu]
                                clear hu
                                have HSY : Hid (¬ (0 ≤ u ∧ u ≠ (v - tk + lv)) → dArrs j (v - tk + lv) (([(j : Int) + 1, x.i] : List Int).drop (i + 1)) (es.set kk (v - tk + lv)) = S) := fun h => by rw [← HE2.out, HDR.out, HDA.out, if_neg h]; rfl
                                by_cases a3 : 0 ≤ u
                                · by_cases a4 : u = (v - tk + lv)
                                  · have hq4 : (u != (v - tk + lv)) = false := by simp [a4]
                                    have A4 := Lib.hid a4
                                    clear a4
                                    have HS2 := Lib.hid (HSY.out (fun h => h.2 A4.out))
                                    obtain ⟨wy, hwy⟩ : ∃ W, W = wz.setCell ⟨g, kk, none⟩ (.int .i64 (v - tk + lv)) := ⟨_, rfl⟩
                                    have HM3 : Hid (MR wy g (es.set kk (v - tk + lv))) := by show MR _ _ _; rw [hwy]; exact hm9.set kk (v - tk + lv)
                                    have HI3 := Lib.hid (HI2.out.keep (w' := wy) (fun k hk => by rw [hwy]; exact Below.heap_setCell _ _ _ _ (HNG.out k hk)))
                                    have cy : Chg [g] w4 wy := by rw [hwy]; exact hcz.setCell (.inl (by simp)) _
                                    have zy : wn.heap.size ≤ wy.heap.size := by rw [hwy]; simpa using zzl
                                    have HL3 : Hid ((es.set kk (v - tk + lv)).length = n) := by show _ = _; rw [List.length_set]; exact HL2.out
                                    have HK3 := Lib.hid (dOk_set HK2.out kk hDr.out)
                                    go_upto_region 34 with fail
                                    rw [← hwy]
                                    clear hwy
                                    go_wp2_with fail
                                    refine ⟨⟨i + 1, es.set kk (v - tk + lv), by omega, by go_num, HS2, HL3, HK3, HM3, HI3, cy, zy⟩, by simp [intOf]; omega⟩
                                  · have hq4 : (u != (v - tk + lv)) = true := by simpa using a4
                                    have HQ : Hid (R = none) := by show _ = _; rw [HR2.out, ← HE2.out, HDR.out, HDA.out, if_pos ⟨a3, a4⟩]; rfl
                                    go_wp2_with fail
                                    go_ret2
                                    exact RetDep.no HQ b9
                                · skip
                                  have HS2 := Lib.hid (HSY.out (fun h => a3 h.1))
                                  obtain ⟨wy, hwy⟩ : ∃ W, W = wz.setCell ⟨g, kk, none⟩ (.int .i64 (v - tk + lv)) := ⟨_, rfl⟩
                                  have HM3 : Hid (MR wy g (es.set kk (v - tk + lv))) := by show MR _ _ _; rw [hwy]; exact hm9.set kk (v - tk + lv)
                                  have HI3 := Lib.hid (HI2.out.keep (w' := wy) (fun k hk => by rw [hwy]; exact Below.heap_setCell _ _ _ _ (HNG.out k hk)))
                                  have cy : Chg [g] w4 wy := by rw [hwy]; exact hcz.setCell (.inl (by simp)) _
                                  have zy : wn.heap.size ≤ wy.heap.size := by rw [hwy]; simpa using zzl
                                  have HL3 : Hid ((es.set kk (v - tk + lv)).length = n) := by show _ = _; rw [List.length_set]; exact HL2.out
                                  have HK3 := Lib.hid (dOk_set HK2.out kk hDr.out)
                                  go_upto_region 34 with fail
                                  rw [← hwy]
                                  clear hwy
                                  go_wp2_with fail
                                  refine ⟨⟨i + 1, es.set kk (v - tk + lv), by omega, by go_num, HS2, HL3, HK3, HM3, HI3, cy, zy⟩, by simp [intOf]; omega⟩
                          · skip
                            have HQ : Hid (dRun m.l (c.l.drop (j + 1)) (j + 1) es = R) := by
                              show _ = _
                              have h2 : S = some es := by rw [← HE2.out, List.drop_eq_nil_of_le (by simp <;> omega)]; rfl
                              rw [HN2.out, h2]; rfl
                            go_wp2_with fail
                            refine ⟨⟨j + 1, es, by omega, by go_num, HQ, HL2, HK2, HM2, hcz⟩, by simp [intOf]; omega⟩
                      · have n16 : x.o ≠ 16 := hk
                        clear hk
                        have e14 : (x.o == 14) = false := by simpa using n14
                        have e13 : (x.o == 13) = false := by simpa using n13
                        have e15 : (x.o == 15) = false := by simpa using n15
                        have e16 : (x.o == 16) = false := by simpa using n16
                        have HA : Hid (dArrs j (v - tk + lv) (([(j : Int) + 1] : List Int).drop 0) ds = S) := by show _ = _; rw [HST2.out, dFol_go ⟨n13, n14, n15, n16⟩]; rfl
                        clear n13 n14 n15 n16
                        obtain ⟨W7, hW7⟩ : ∃ W7, W7 = w6.alloc (.cells #[.int .i64 ((j : Int) + 1)] 3) := ⟨_, rfl⟩
                        have bn : Below w6.heap.size w6 W7 := by rw [hW7]; exact (Below.refl _ _).alloc (Nat.le_refl _) _
                        have zn : w6.heap.size + 1 ≤ W7.heap.size ∧ W7.heap.size ≤ w6.heap.size + 1 := by rw [hW7]; simp
                        have gn : D.Blk W7 w6.heap.size 3 #[.int .i64 ((j : Int) + 1)] := by rw [hW7]; exact D.Blk.new _ _ _
                        obtain ⟨wq, hwq⟩ : ∃ q, q = w6.heap.size := ⟨_, rfl⟩
                        rw [← hwq] at gn
                        have HIN : Hid (IIn W7 W7.heap.size (some ⟨wq, 0, none⟩) 1 ([(j : Int) + 1] : List Int)) := by
                          refine ⟨⟨Nat.le_refl _, by omega⟩, fun e => (by cases e), fun _ => ⟨wq, 0, rfl, by omega, fun i u hu => ?_⟩⟩
                          have h0 : i = 0 := by have := (List.getElem?_eq_some_iff.1 hu).1; simp at this; omega
                          subst h0
                          simp at hu
                          subst hu
                          exact gn.cell 0
                        have HNG : Hid (∀ z ∈ iblk (some ⟨wq, 0, none⟩ : Option Addr) ([(j : Int) + 1] : List Int), z ≠ g) := by intro z hz; simp [iblk] at hz; omega
                        go_upto_region 20 with fail
                        rw [← hW7, ← hwq]
                        clear hW7 d0 d1 d2 d3 d4 d5
                        obtain ⟨d0, d1, d2, d3, d4, d5⟩ := XB6.out.below bn (by omega)
                        clear hwq
                        go_wp2_with fail
                        clear d0 d1 d2 d3 d4 d5
                        obtain ⟨wn, hwn⟩ : ∃ W, W = W7 := ⟨_, rfl⟩
                        rw [← hwn] at bn HIN ⊢
                        clear hwn
                        have cn : Chg [g] w4 wn := c6.trans (Chg.of_below bn)
                        have HMn := Lib.hid (hm7.below bn hgw6)
                        go_loopw [112] (fun s wz => ∃ (i : Nat) (es : List Int), i ≤ 1 ∧ s = .int .i64 i ∧ Hid (dArrs j (v - tk + lv) (([(j : Int) + 1] : List Int).drop i) es = S) ∧ Hid (es.length = n) ∧ Hid (dOk es) ∧ Hid (MR wz g es) ∧ Hid (IIn wz wn.heap.size (some ⟨wq, 0, none⟩) 1 ([(j : Int) + 1] : List Int)) ∧ Chg [g] w4 wz ∧ wn.heap.size ≤ wz.heap.size) (fun s _ => 1 - (intOf s).toNat)
                        case atStart => exact ⟨0, ds, Nat.zero_le _, rfl, HA, HL, HK, HMn, HIN, cn, Nat.le_refl _⟩
                        case round =>
                          obtain ⟨i, es, hi, rfl, HE2, HL2, HK2, HM2, HI2, hcz, zzl⟩ := hrel
                          obtain ⟨wz, hwz⟩ : ∃ W, W = wr := ⟨_, rfl⟩
                          rw [← hwz] at HM2 HI2 hcz zzl ⊢
                          clear hwz
                          have b9 : Below w.heap.size w wz := b4.trans (hcz.below (fun k hk => by simp at hk; omega) (by omega))
                          have hm9 := HM2.out
                          by_cases hil : i < 1
                          · have li : (i : Int) < 1 := by omega
                            have li0 : (0 : Int) ≤ (i : Int) := by omega
                            obtain ⟨pb, po, eP, hpb, pc⟩ := HI2.out.at_ (i := i) (show i < ([(j : Int) + 1] : List Int).length by simpa using hil)
                            have hdr : dArrs j (v - tk + lv) (([(j : Int) + 1] : List Int).drop i) es = (dArr es j ([(j : Int) + 1] : List Int)[i] (v - tk + lv)).bind (dArrs j (v - tk + lv) (([(j : Int) + 1] : List Int).drop (i + 1))) := by rw [List.drop_eq_getElem_cons (show i < ([(j : Int) + 1] : List Int).length by simpa using hil), dArrs]
                            obtain ⟨q, hq⟩ : ∃ q, q = ([(j : Int) + 1] : List Int)[i] := ⟨_, rfl⟩
                            rw [← hq] at pc hdr
                            have HDR := Lib.hid hdr
                            have EP := Lib.hid eP
                            clear hq hdr eP
                            obtain ⟨rfl, rfl⟩ : pb = wq ∧ po = 0 := by have := EP.out; simp at this; exact ⟨this.1.symm, this.2.symm⟩
                            clear EP
                            rw [Nat.zero_add] at pc
                            by_cases a1 : q ≤ (j : Int)
                            · skip
                              have HQ : Hid (R = none) := by
                                show _ = _
                                rw [HR2.out, ← HE2.out, HDR.out]
                                have : dArr es j q (v - tk + lv) = none := by unfold dArr; rw [if_pos (.inl a1)]
                                rw [this]; rfl
                              go_wp2_with fail
                              go_ret2
                              exact RetDep.no HQ b9
                            · by_cases a2 : (n : Int) ≤ q
                              · skip
                                have HQ : Hid (R = none) := by
                                  show _ = _
                                  rw [HR2.out, ← HE2.out, HDR.out]
                                  have : dArr es j q (v - tk + lv) = none := by unfold dArr; rw [if_pos (.inr (by rw [HL2.out]; exact a2))]
                                  rw [this]; rfl
                                go_wp2_with fail
                                go_ret2
                                exact RetDep.no HQ b9
                              · obtain ⟨kk, rfl⟩ : ∃ kk : Nat, q = kk := ⟨q.toNat, by omega⟩
                                have hkk : kk < es.length := by rw [HL2.out]; omega
                                have kk0 : (0 : Int) ≤ (kk : Int) := by omega
                                have kk1 : (kk : Int) < (n : Int) := by omega
                                have gk := hm9.cell hkk
                                have gf := hm9.frozen kk
                                obtain ⟨u, hu⟩ : ∃ u, u = es.getD kk 0 := ⟨_, rfl⟩
                                rw [← hu] at gk
                                have HDA : Hid (dArr es j (kk : Int) (v - tk + lv) = if 0 ≤ u ∧ u ≠ (v - tk + lv) then none else some (es.set kk (v - tk + lv))) := by show _ = _; unfold dArr; rw [if_neg (by rw [HL2.out]; omega), Int.toNat_natCast, ← hu]
                                clear hu
                                have HSY : Hid (¬ (0 ≤ u ∧ u ≠ (v - tk + lv)) → dArrs j (v - tk + lv) (([(j : Int) + 1] : List Int).drop (i + 1)) (es.set kk (v - tk + lv)) = S) := fun h => by rw [← HE2.out, HDR.out, HDA.out, if_neg h]; rfl
                                by_cases a3 : 0 ≤ u
                                · by_cases a4 : u = (v - tk + lv)
                                  · have hq4 : (u != (v - tk + lv)) = false := by simp [a4]
                                    have A4 := Lib.hid a4
                                    clear a4
                                    have HS2 := Lib.hid (HSY.out (fun h => h.2 A4.out))
                                    obtain ⟨wy, hwy⟩ : ∃ W, W = wz.setCell ⟨g, kk, none⟩ (.int .i64 (v - tk + lv)) := ⟨_, rfl⟩
                                    have HM3 : Hid (MR wy g (es.set kk (v - tk + lv))) := by show MR _ _ _; rw [hwy]; exact hm9.set kk (v - tk + lv)
                                    have HI3 := Lib.hid (HI2.out.keep (w' := wy) (fun k hk => by rw [hwy]; exact Below.heap_setCell _ _ _ _ (HNG.out k hk)))
                                    have cy : Chg [g] w4 wy := by rw [hwy]; exact hcz.setCell (.inl (by simp)) _
                                    have zy : wn.heap.size ≤ wy.heap.size := by rw [hwy]; simpa using zzl
                                    have HL3 : Hid ((es.set kk (v - tk + lv)).length = n) := by show _ = _; rw [List.length_set]; exact HL2.out
                                    have HK3 := Lib.hid (dOk_set HK2.out kk hDr.out)
                                    go_upto_region 34 with fail
                                    rw [← hwy]
                                    clear hwy
                                    go_wp2_with fail
                                    refine ⟨⟨i + 1, es.set kk (v - tk + lv), by omega, by go_num, HS2, HL3, HK3, HM3, HI3, cy, zy⟩, by simp [intOf]; omega⟩
                                  · have hq4 : (u != (v - tk + lv)) = true := by simpa using a4
                                    have HQ : Hid (R = none) := by show _ = _; rw [HR2.out, ← HE2.out, HDR.out, HDA.out, if_pos ⟨a3, a4⟩]; rfl
                                    go_wp2_with fail
                                    go_ret2
                                    exact RetDep.no HQ b9
                                · skip
                                  have HS2 := Lib.hid (HSY.out (fun h => a3 h.1))
                                  obtain ⟨wy, hwy⟩ : ∃ W, W = wz.setCell ⟨g, kk, none⟩ (.int .i64 (v - tk + lv)) := ⟨_, rfl⟩
                                  have HM3 : Hid (MR wy g (es.set kk (v - tk + lv))) := by show MR _ _ _; rw [hwy]; exact hm9.set kk (v - tk + lv)
                                  have HI3 := Lib.hid (HI2.out.keep (w' := wy) (fun k hk => by rw [hwy]; exact Below.heap_setCell _ _ _ _ (HNG.out k hk)))
                                  have cy : Chg [g] w4 wy := by rw [hwy]; exact hcz.setCell (.inl (by simp)) _
                                  have zy : wn.heap.size ≤ wy.heap.size := by rw [hwy]; simpa using zzl
                                  have HL3 : Hid ((es.set kk (v - tk + lv)).length = n) := by show _ = _; rw [List.length_set]; exact HL2.out
                                  have HK3 := Lib.hid (dOk_set HK2.out kk hDr.out)
                                  go_upto_region 34 with fail
                                  rw [← hwy]
                                  clear hwy
                                  go_wp2_with fail
                                  refine ⟨⟨i + 1, es.set kk (v - tk + lv), by omega, by go_num, HS2, HL3, HK3, HM3, HI3, cy, zy⟩, by simp [intOf]; omega⟩
                          · skip
                            have HQ : Hid (dRun m.l (c.l.drop (j + 1)) (j + 1) es = R) := by
                              show _ = _
                              have h2 : S = some es := by rw [← HE2.out, List.drop_eq_nil_of_le (by simp <;> omega)]; rfl
                              rw [HN2.out, h2]; rfl
                            go_wp2_with fail
                            refine ⟨⟨j + 1, es, by omega, by go_num, HQ, HL2, HK2, HM2, hcz⟩, by simp [intOf]; omega⟩
        · have hj' : j = n := by omega
          subst hj'
          have HQ : Hid (R = some ds) := by
            show _ = _
            rw [← HE.out, List.drop_eq_nil_of_le (by rw [HMETA.out]; exact Nat.le_refl _)]
            rfl
          go_wp2_with fail
          go_ret2
          exact RetDep.yes HQ b5 hmr (by omega) HL
end Go.Proofs.Ytpigpncbjckbcaa
