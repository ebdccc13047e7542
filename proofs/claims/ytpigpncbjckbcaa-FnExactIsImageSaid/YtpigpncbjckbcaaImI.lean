/-
  The depths of the stack: the program (written by gen/imi.py).
-/
import Derived.Test.YtpigpncbjckbcaaImR
import Derived.Test.YtpigpncbjckbcaaImM
import Derived.Deep.DeepCutAuto
namespace Go.Proofs.Ytpigpncbjckbcaa
open Go.RowKit

/-- What a walk along a code asks of it. -/
def Cd.fit (cs : List Cd) (c : Cd) : Prop := (1 ≤ c.l.length ∧ c.l.length ≤ 4000) ∧ ∀ x ∈ c.l, ((1 ≤ x.o ∧ x.o ≤ 20) ∧ 0 ≤ x.i ∧ x.i ≤ 4000) ∧ (x.o = 11 ∨ 18 ≤ x.o → x.i.toNat < cs.length ∧ 0 ≤ (Cd.at' cs x.i).c ∧ (Cd.at' cs x.i).c ≤ 500)
theorem Nt.eff_in {cs : List Cd} {x : Nt} (_ho : 1 ≤ x.o ∧ x.o ≤ 20) (hi : 0 ≤ x.i ∧ x.i ≤ 4000) (hc : x.o = 11 ∨ 18 ≤ x.o → x.i.toNat < cs.length ∧ 0 ≤ (Cd.at' cs x.i).c ∧ (Cd.at' cs x.i).c ≤ 500) :
    (0 ≤ (x.eff cs).1 ∧ (x.eff cs).1 ≤ 4001) ∧ 0 ≤ (x.eff cs).2 ∧ (x.eff cs).2 ≤ 1 := by
  unfold Nt.eff effO
  split
  · dsimp only; omega
  · split
    · dsimp only; omega
    · split
      · rename_i h
        have := hc h
        dsimp only; omega
      · split
        · dsimp only; omega
        · split
          · dsimp only; omega
          · split <;> (dsimp only; omega)
/-- Returned: the depths, or nothing. -/
def RetDep (R : Option (List Int)) (w : World) (e : Ending) (w' : World) : Prop := Below w.heap.size w w' ∧ ((R = none ∧ e = .returned (.tuple #[.slice none 0 0, .bool false])) ∨ ∃ (ds : List Int) (g : Nat), R = some ds ∧ e = .returned (.tuple #[.slice (some ⟨g, 0, none⟩) ds.length ds.length, .bool true]) ∧ MR w' g ds ∧ w.heap.size ≤ g)
theorem RetDep.no {R : Option (List Int)} {w w' : World} (h : Hid (R = none)) (hb : Below w.heap.size w w') : RetDep R w (.returned (.tuple #[.slice none 0 0, .bool false])) w' := ⟨hb, .inl ⟨h.out, rfl⟩⟩
theorem RetDep.yes {R : Option (List Int)} {w w' : World} {ds : List Int} {g : Nat} (h : Hid (R = some ds)) (hb : Below w.heap.size w w') (hm : MR w' g ds) (hg : w.heap.size ≤ g) {n : Nat} (hn : Hid (ds.length = n)) : RetDep R w (.returned (.tuple #[.slice (some ⟨g, 0, none⟩) n n, .bool true])) w' := by
  rw [← hn.out]
  exact ⟨hb, .inr ⟨ds, g, h.out, rfl, hm, hg⟩⟩
theorem dRun_drop {cs : List Cd} {l : List Nt} {j : Nat} {ds : List Int} (h : j < l.length) : dRun cs (l.drop j) j ds = (dStep cs ds j l[j]).bind (dRun cs (l.drop (j + 1)) (j + 1)) := by
  rw [List.drop_eq_getElem_cons h, dRun]

set_option maxRecDepth 100000 in
set_option maxHeartbeats 8000000 in
theorem depthsIn_any (m : Im) (c : Cd) (B : Nat) (w : World) (hfit : Cd.fit m.l c) (hm : Im.E.In w B m) (hc : Cd.E.In w B c) (hB : B ≤ w.heap.size) :
    Calls Try.prog 35 #[Im.val m, Cd.val c] w (RetDep (Cd.depths m.l c) w) := by
  obtain ⟨W1, hW1⟩ : ∃ W1, W1 = (w.alloc (.cells #[.slice m.lA m.l.length m.lC, .int .i64 m.m] 31)).alloc (.cells #[.int .i64 c.p, .int .i64 c.s, .int .i64 c.c, .slice c.lA c.l.length c.lC] 48) := ⟨_, rfl⟩
  have b1 : Below w.heap.size w W1 := by rw [hW1]; exact ((Below.refl _ _).alloc (Nat.le_refl _) _).alloc (by simp) _
  have z1 : w.heap.size + 2 ≤ W1.heap.size := by rw [hW1]; simp
  have xa : Im.Box W1 w.heap.size m := by rw [hW1]; exact (Im.Box.new w m _).below ((Below.refl (w.heap.size + 1) _).alloc (by simp) _) (by omega)
  have xc : Cd.Box W1 (w.heap.size + 1) c := by rw [hW1]; have := Cd.Box.new (w.alloc (.cells #[.slice m.lA m.l.length m.lC, .int .i64 m.m] 31)) c 48; simpa using this
  obtain ⟨⟨hn0, hn⟩, hfi⟩ := hfit
  obtain ⟨R, hR⟩ : ∃ R, R = Cd.depths m.l c := ⟨_, rfl⟩
  rw [← hR]
  have HR := Lib.hid hR
  clear hR
  have HFI := Lib.hid hfi
  clear hfi
  have HM := Lib.hid (hm.below (b1.mono hB))
  have hcl := (Cd.E_in (hc.below (b1.mono hB))).l
  obtain ⟨CA, hCA⟩ : ∃ A, A = c.lA := ⟨_, rfl⟩
  rw [← hCA] at hcl
  have HCL := Lib.hid hcl
  have hcap := hcl.cap
  clear hcl
  have XA := Lib.hid xa
  unfold Im.val Cd.val
  obtain ⟨a0, a1⟩ := xa
  obtain ⟨c0, c1, c2, c3⟩ := xc
  rw [← hCA] at c3
  obtain ⟨n, hnn⟩ : ∃ n, n = c.l.length := ⟨_, rfl⟩
  have HN := Lib.hid hnn
  rw [← hnn] at c3 hn0 hn hcap
  have hmeta : c.l.length = n := hnn.symm
  have HMETA := Lib.hid hmeta
  clear hmeta
  obtain ⟨W2, hW2⟩ : ∃ W2, W2 = W1.alloc (.cells #[.int .i64 (-1)] 3) := ⟨_, rfl⟩
  have b2 : Below W1.heap.size W1 W2 := by rw [hW2]; exact (Below.refl _ _).alloc (Nat.le_refl _) _
  have z2 : W2.heap.size = W1.heap.size + 1 := by rw [hW2]; simp
  have e2 : W2.cell? ⟨W1.heap.size, 0, none⟩ = some (.int .i64 (-1)) := by rw [hW2]; exact (D.Blk.new W1 3 #[.int .i64 (-1)]).cell 0
  have hrep := repeat_any (-1) W1.heap.size 0 1 n W2 hn0 hn (by omega) e2
  have C3 := Lib.hid ((b2.cell (p := ⟨w.heap.size + 1, 3, none⟩) (show w.heap.size + 1 < W1.heap.size by omega)).trans c3)
  clear e2
  have lz0 : w.heap.size < W1.heap.size := by omega
  have lz1 : w.heap.size + 1 < W1.heap.size := by omega
  go_enter Try.func35, Try.ntmps35
  go_upto_region 1 with fail
  rw [← hW1]
  rw [← hCA, ← hnn]
  clear hW1 hCA hnn
  go_wp2_with fail
  rw [← hW2]
  clear hW2 a0 a1 c0 c1 c2 c3
  (with_reducible refine hrep.mono ?_)
  clear hrep
  rintro e w3 ⟨rfl, hm3, hb3⟩
  have z3 := hb3.size
  obtain ⟨g, hg⟩ : ∃ g, g = W2.heap.size := ⟨_, rfl⟩
  rw [← hg] at hm3 ⊢
  have hgl := hm3.lt
  have gw : w.heap.size ≤ g := by omega
  have gw1 : W1.heap.size + 1 ≤ g := by omega
  have gc := hm3.cell (i := 0) (by simp; omega)
  have gf := hm3.frozen 0
  have C3b := (hb3.cell (p := ⟨w.heap.size + 1, 3, none⟩) (show w.heap.size + 1 < W2.heap.size by omega)).trans C3.out
  have b3 := b1.trans ((b2.trans (hb3.mono (by omega))).mono (by omega))
  have bb : Below W1.heap.size W1 w3 := b2.trans (hb3.mono (by omega))
  clear hg
  obtain ⟨w4, hw4⟩ : ∃ W, W = w3.setCell ⟨g, 0, none⟩ (.int .i64 0) := ⟨_, rfl⟩
  have hm4 : MR w4 g (0 :: List.replicate (n - 1) (-1)) := by
    rw [hw4]
    have h := hm3.set 0 0
    obtain ⟨q, hq⟩ : ∃ q, n = q + 1 := ⟨n - 1, by omega⟩
    subst hq
    simpa [List.replicate_succ] using h
  have b4 : Below w.heap.size w w4 := by rw [hw4]; exact b3.setCell gw _
  have bb4 : Below W1.heap.size W1 w4 := by rw [hw4]; exact bb.setCell (show W1.heap.size ≤ g by omega) _
  have z4 : w4.heap.size = w3.heap.size := by rw [hw4]; simp
  have C4 : w4.cell? ⟨w.heap.size + 1, 3, none⟩ = some (.slice CA n c.lC) := by rw [hw4]; exact (World.cell?_of_block (a := ⟨w.heap.size + 1, 3, none⟩) (Below.heap_setCell _ _ _ _ (by show w.heap.size + 1 ≠ g; omega))).trans C3b
  have XA4 := Lib.hid (XA.out.below bb4 (by omega))
  have HM4 := Lib.hid (HM.out.below (bb4.mono (by omega)))
  have HCL4 := Lib.hid (HCL.out.below (bb4.mono (by omega)))
  have HM5 := Lib.hid hm4
  clear XA HM HCL hm3 hm4 hb3 b3 bb C3 bb4 b2
  go_upto_region 3 with fail
  rw [← hw4]
  clear hw4 gc gf C3b
  go_wp2_with fail
  have H0 : Hid (dRun m.l (c.l.drop 0) 0 (0 :: List.replicate (n - 1) (-1)) = R) := by
    show _ = _
    rw [HR.out, List.drop_zero]
    unfold Cd.depths
    rw [if_neg (by rw [HMETA.out]; omega), HMETA.out]
  have K0 : Hid (dOk (0 :: List.replicate (n - 1) (-1))) := by
    show dOk _
    intro u hu
    rcases List.mem_cons.1 hu with rfl | hu
    · exact ⟨by decide, by decide⟩
    · rw [List.eq_of_mem_replicate hu]; exact ⟨by decide, by decide⟩
  go_loopw [22] (fun i wr => ∃ (j : Nat) (ds : List Int), j ≤ n ∧ i = .int .i64 j ∧ Hid (dRun m.l (c.l.drop j) j ds = R) ∧ Hid (ds.length = n) ∧ Hid (dOk ds) ∧ Hid (MR wr g ds) ∧ Chg [g] w4 wr) (fun i _ => n - (intOf i).toNat)
  case atStart => exact ⟨0, _, Nat.zero_le _, rfl, H0, (by show _ = _; simp; omega), K0, HM5, Chg.refl _ _⟩
  case round =>
    obtain ⟨j, ds, hj, rfl, HE, HL, HK, HMR, hcr⟩ := hrel
    have zr := hcr.size
    have br : Below w.heap.size w4 wr := hcr.below (fun k hk => by simp at hk; omega) (by omega)
    have b5 : Below w.heap.size w wr := b4.trans br
    have hmr := HMR.out
    by_cases hlt : j < n
    · have lj : (j : Int) < (n : Int) := by omega
      have lj0 : (0 : Int) ≤ (j : Int) := by omega
      have hjl : j < c.l.length := by rw [HMETA.out]; exact hlt
      obtain ⟨eb, eo, rfl, hbl, d0, d1, d2, d3, d4, d5, hix⟩ := Nt.at_ (HCL4.out.below (br.mono hB)) (i := j) (x := c.l[j]) (List.getElem?_eq_getElem hjl)
      obtain ⟨x, hx⟩ : ∃ x, x = c.l[j] := ⟨_, rfl⟩
      have hdrop := dRun_drop (cs := m.l) (ds := ds) hjl
      obtain ⟨⟨ho, hi0, hi1⟩, hcap2⟩ := HFI.out c.l[j] (List.getElem_mem hjl)
      rw [← hx] at d0 d1 d2 d3 d4 d5 hix hdrop ho hi0 hi1 hcap2
      clear hx
      have heff := Nt.eff_in ho ⟨hi0, hi1⟩ hcap2
      have hee := implEff_any m x B
      obtain ⟨v, hv⟩ : ∃ v, v = ds.getD j 0 := ⟨_, rfl⟩
      have gv := hmr.cell (i := j) (by rw [HL.out]; exact hlt)
      have hvk := dOk_getD HK.out j
      rw [← hv] at gv hvk
      have HV := Lib.hid hv
      have HD := Lib.hid hdrop
      clear hv hdrop
      obtain ⟨W5, hW5⟩ : ∃ W5, W5 = wr.alloc (.cells #[.int .i64 x.o, .int .i64 x.i, .int .i64 x.t.k, .int .i64 x.t.n, .string x.t.t, .slice x.t.A x.t.l.length x.t.c] 53) := ⟨_, rfl⟩
      have bx : Below wr.heap.size wr W5 := by rw [hW5]; exact (Below.refl _ _).alloc (Nat.le_refl _) _
      have zx : wr.heap.size < W5.heap.size := by rw [hW5]; simp
      have xb : Nt.Box W5 wr.heap.size x := by rw [hW5]; exact Nt.Box.new _ _ _
      have hgr : g < wr.heap.size := by omega
      have hm5 := hmr.below bx hgr
      have gv5 := (bx.cell (p := ⟨g, j, none⟩) hgr).trans gv
      have XM5 := ((XA4.out.chg hcr (by omega) (by simp; omega)).below bx (by omega))
      have c5 : Chg [g] w4 W5 := hcr.trans (Chg.of_below bx)
      have b6 : Below w.heap.size w W5 := b5.trans (bx.mono (by omega))
      have hm6 := (HM4.out.below (br.mono hB)).below (bx.mono (by omega))
      have lb : eb < wr.heap.size := by omega
      have HM6 := Lib.hid hm6
      have XB := Lib.hid xb
      have XM := Lib.hid XM5
      have HM5b := Lib.hid hm5
      clear hm6 hm5 hmr gv HM4 HCL4 XM5
      go_upto_region 6 with fail
      rw [← hW5]
      clear hW5 d0 d1 d2 d3 d4 d5 lb
      by_cases hv0 : v < 0
      · have HS : Hid (dRun m.l (c.l.drop (j + 1)) (j + 1) ds = R) := by
          show _ = _
          rw [← HE.out, HD.out]
          unfold dStep
          rw [← HV.out, if_pos hv0]
          rfl
        go_wp2_with fail
        refine ⟨⟨j + 1, ds, by omega, by go_num, HS, HL, HK, HM5b, c5⟩, by simp [intOf]; omega⟩
      · have hst : dStep m.l ds j x = if v < (x.eff m.l).1 ∨ 500 < v - (x.eff m.l).1 + (x.eff m.l).2 then none else dFol ds j x.o x.i (v - (x.eff m.l).1 + (x.eff m.l).2) := by
          unfold dStep
          rw [← HV.out, if_neg hv0]
        have hec := hee W5 ho hi0 hi1 (fun h => (hcap2 h).1) HM6.out (by omega)
        have hok2 : ∀ ds', dStep m.l ds j x = some ds' → dOk ds' := fun ds' h => dStep_ok ⟨heff.1.1, heff.2.1⟩ HK.out h
        have hln2 : ∀ ds', dStep m.l ds j x = some ds' → ds'.length = n := fun ds' h => (dStep_len h).trans HL.out
        obtain ⟨tk, htk⟩ : ∃ t, t = (x.eff m.l).1 := ⟨_, rfl⟩
        obtain ⟨lv, hlv⟩ : ∃ t, t = (x.eff m.l).2 := ⟨_, rfl⟩
        rw [← htk, ← hlv] at hst hec heff
        obtain ⟨S, hS⟩ : ∃ S, S = dStep m.l ds j x := ⟨_, rfl⟩
        rw [← hS] at hst hok2 hln2
        have HN2 : Hid (R = S.bind (dRun m.l (c.l.drop (j + 1)) (j + 1))) := by show _ = _; rw [← HE.out, HD.out, hS]
        have HST := Lib.hid hst
        have HOK2 := Lib.hid hok2
        have HLN2 := Lib.hid hln2
        obtain ⟨⟨ht0, ht1⟩, hl0, hl1⟩ := heff
        obtain ⟨hv1, hv2⟩ := hvk
        clear htk hlv hS hst hok2 hln2 hee ho hi0 hi1 hcap2
        unfold Im.val Nt.val at hec
        obtain ⟨a0, a1⟩ := XM.out
        obtain ⟨d0, d1, d2, d3, d4, d5⟩ := XB.out
        go_wp2_with fail
        clear a0 a1 d0 d1 d2 d3 d4 d5
        (with_reducible refine hec.mono ?_)
        clear hec
        rintro e w6 ⟨rfl, hb6⟩
        have z6 := hb6.size
        have gv6 := (hb6.cell (p := ⟨g, j, none⟩) (show g < W5.heap.size by omega)).trans gv5
        have hm7 := HM5b.out.below hb6 (by omega)
        have c6 : Chg [g] w4 w6 := c5.trans (Chg.of_below hb6)
        have b7 : Below w.heap.size w w6 := b6.trans (hb6.mono (by omega))
        obtain ⟨d0, d1, d2, d3, d4, d5⟩ := XB.out.below hb6 zx
        clear gv5
        by_cases h1 : v < tk
        · have HQ : Hid (R = none) := by show _ = _; rw [HN2.out, HST.out, if_pos (.inl h1)]; rfl
          go_wp2_with fail
          go_ret2
          exact RetDep.no HQ b7
        · by_cases h2 : 500 < v - tk + lv
          · have HQ : Hid (R = none) := by show _ = _; rw [HN2.out, HST.out, if_pos (.inr h2)]; rfl
            go_wp2_with fail
            go_ret2
            exact RetDep.no HQ b7
          · have hfo := follow_any ds g j (v - tk + lv) x w6 lj0 (by omega) (by rw [HL.out]; exact hn) hm7
            rw [HL.out] at hfo
            have HST2 : Hid (S = dFol ds j x.o x.i (v - tk + lv)) := by show _ = _; rw [HST.out, if_neg (by omega)]
            rw [← HST2.out] at hfo
            unfold Nt.val at hfo
            clear hm7
            go_wp2_with fail
            (with_reducible refine hfo.mono ?_)
            clear hfo
            rintro e w7 ⟨rfl, hc7, hr7⟩
            have z7 := hc7.size
            have c8 := c6.trans hc7
            have b8 : Below w.heap.size w w7 := b7.trans (hc7.below (fun k hk => by simp at hk; omega) (by omega))
            cases S with
            | none =>
              have HQ : Hid (R = none) := by show _ = _; rw [HN2.out]; rfl
              go_wp2_with fail
              go_ret2
              exact RetDep.no HQ b8
            | some ds' =>
              have HQ : Hid (dRun m.l (c.l.drop (j + 1)) (j + 1) ds' = R) := by show _ = _; rw [HN2.out]; rfl
              have HL2 := Lib.hid (HLN2.out ds' rfl)
              have HK2 := Lib.hid (HOK2.out ds' rfl)
              have HM8 := Lib.hid (hr7 ds' rfl)
              clear hr7
              go_wp2_with fail
              refine ⟨⟨j + 1, ds', by omega, by go_num, HQ, HL2, HK2, HM8, c8⟩, by simp [intOf]; omega⟩
    · have hj' : j = n := by omega
      subst hj'
      have HQ : Hid (R = some ds) := by
        show _ = _
        rw [← HE.out, List.drop_eq_nil_of_le (by rw [HMETA.out]; exact Nat.le_refl _)]
        rfl
      go_wp2_with fail
      go_ret2
      exact RetDep.yes HQ b5 hmr gw HL
end Go.Proofs.Ytpigpncbjckbcaa
