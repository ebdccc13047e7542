/-
  l10Tree of the model (written by gen/imv.py).
-/
import Derived.Test.YtpigpncbjckbcaaImU
import Derived.Test.YtpigpncbjckbcaaScSets
import Derived.Deep.DeepCutAuto
namespace Go.Proofs.Ytpigpncbjckbcaa
open Go.RowKit

/-- How often each code is named. -/
def Im.cnts (m : Im) (ns : List Int) : List Int := m.l.foldl nCode ns
def Im.tree (m : Im) : Bool := (List.range m.l.length).all fun k => (m.cnts (List.replicate m.l.length 0)).getD k 0 == 1 || (k : Int) == m.m
def treeTo (ns : List Int) (main : Int) (n : Nat) : Bool := (List.range n).all fun k => ns.getD k 0 == 1 || (k : Int) == main
theorem treeTo_succ (ns : List Int) (main : Int) (n : Nat) : treeTo ns main (n + 1) = (treeTo ns main n && (ns.getD n 0 == 1 || (n : Int) == main)) := by
  unfold treeTo
  rw [List.range_succ, List.all_append]
  simp
theorem treeTo_no {ns : List Int} {main : Int} {n k : Nat} (h : (ns.getD k 0 == 1 || (k : Int) == main) = false) (hk : k < n) : treeTo ns main n = false := by
  cases hh : treeTo ns main n
  · rfl
  · have := List.all_eq_true.1 hh k (List.mem_range.2 hk)
    rw [h] at this
    exact absurd this (by decide)
theorem zeros_bd (n : Nat) : nBd (List.replicate n 0) 0 := fun v hv => by rw [List.eq_of_mem_replicate hv]; exact ⟨Int.le_refl _, by simp⟩

set_option maxRecDepth 100000 in
set_option maxHeartbeats 8000000 in
theorem l10Tree_any (m : Im) (B : Nat) (w : World) (hm : Im.E.In w B m) (hB : B ≤ w.heap.size) (hv : ∀ c ∈ m.l, ∀ x ∈ c.l, x.inside = true → 0 ≤ x.i ∧ x.i.toNat < m.l.length) (hT : cTot m.l ≤ 16000) (hn : m.l.length ≤ 1500) :
    Calls Try.prog 32 #[Im.val m] w fun e w' => e = .returned (.bool m.tree) ∧ Below w.heap.size w w' := by
  obtain ⟨R, hR⟩ : ∃ R, R = m.cnts (List.replicate m.l.length 0) := ⟨_, rfl⟩
  have HRT : Hid (m.tree = treeTo R m.m m.l.length) := by show _ = _; rw [hR]; rfl
  have HR0 : Hid (m.l.foldl nCode (List.replicate m.l.length 0) = R) := by show _ = _; rw [hR]; rfl
  clear hR
  obtain ⟨W1, hW1⟩ : ∃ W1, W1 = w.alloc (.cells #[.slice m.lA m.l.length m.lC, .int .i64 m.m] 31) := ⟨_, rfl⟩
  have b1 : Below w.heap.size w W1 := by rw [hW1]; exact (Below.refl _ _).alloc (Nat.le_refl _) _
  have z1 : w.heap.size + 1 ≤ W1.heap.size := by rw [hW1]; simp
  have xa : Im.Box W1 w.heap.size m := by rw [hW1]; exact Im.Box.new _ _ _
  have HML := Lib.hid (Im.E_in (hm.below (b1.mono hB))).l
  have hcapm := (Im.E_in hm).l.cap
  have HVL := Lib.hid hv
  clear hv
  have XA := Lib.hid xa
  unfold Im.val
  obtain ⟨a0, a1⟩ := xa
  obtain ⟨MA, hMA⟩ : ∃ A, A = m.lA := ⟨_, rfl⟩
  have HML2 := HML.out
  rw [← hMA] at HML2 a0
  have HML := Lib.hid HML2
  clear HML2
  obtain ⟨n, hnn⟩ : ∃ n, n = m.l.length := ⟨_, rfl⟩
  rw [← hnn] at a0 hn hcapm
  have HMETA := Lib.hid hnn.symm
  have HMAE := Lib.hid hMA.symm
  have ln0 : (0 : Int) ≤ (n : Int) := by omega
  obtain ⟨i0, hI0, hZ0, hZ1, hZ2⟩ := info_parts infoI_
  have hmk := fun W => run_make_rowI (P := Try.prog) 36 3 i0 _ Try.underlying36 hI0 hZ0 .i64 .i64 n n (Nat.le_refl _) (by rw [hZ2]; omega) (by omega) W
  rw [hZ1] at hmk
  have hmc : madeCells (Value.int .i64 0).cells (n * 1) = ((List.replicate n (0 : Int)).map (Value.int .i64)).toArray := by
    apply Array.ext
    · simp [madeCells]
    · intro i h1 h2
      simp [madeCells, Value.cells, Nat.mod_one]
  obtain ⟨Z, hZ⟩ : ∃ Z, Z = ((List.replicate n (0 : Int)).map (Value.int .i64)).toArray := ⟨_, rfl⟩
  rw [hmc, ← hZ] at hmk
  clear hmc
  obtain ⟨g, hg⟩ : ∃ g, g = W1.heap.size := ⟨_, rfl⟩
  obtain ⟨W2, hW2⟩ : ∃ W2, W2 = W1.alloc (.cells Z 3) := ⟨_, rfl⟩
  have b2 : Below W1.heap.size W1 W2 := by rw [hW2]; exact (Below.refl _ _).alloc (Nat.le_refl _) _
  have z2 : W2.heap.size = g + 1 := by rw [hW2, hg]; simp
  have hm2 : MR W2 g (List.replicate n 0) := by
    unfold MR
    rw [hW2, hg, ← hZ]
    exact D.Blk.new _ _ _
  clear hZ
  have HM2 := Lib.hid hm2
  clear hm2
  have gw : w.heap.size + 1 ≤ g := by omega
  have bb2 : Below g W1 W2 := by rw [hg]; exact b2
  have gl2 : g < W2.heap.size := by omega
  go_enter Try.func32, Try.ntmps32
  go_upto_region 1 with fail
  rw [← hW1, ← hMA, ← hnn]
  clear hW1 hMA hnn
  go_upto_region 2 with fail
  rw [← hW2, ← hg]
  clear hW2 hmk hg a0 a1
  have HX2 := Lib.hid (XA.out.below bb2 (by omega))
  have HML3 := Lib.hid (HML.out.below (bb2.mono (by omega)))
  have b3 : Below w.heap.size w W2 := b1.trans (bb2.mono (by omega))
  obtain ⟨a0, a1⟩ := HX2.out
  rw [HMAE.out, HMETA.out] at a0
  rw [HMETA.out] at HRT HR0
  go_wp2_with fail
  clear a0 a1
  go_loopw [17] (fun i wr => ∃ (j : Nat) (ns : List Int) (t : Nat), j ≤ n ∧ i = .int .i64 j ∧ Hid ((m.l.drop j).foldl nCode ns = R) ∧ Hid (ns.length = n) ∧ Hid (nBd ns t) ∧ Hid (t + cTot (m.l.drop j) ≤ 16001) ∧ Hid (MR wr g ns) ∧ Chg [g] W2 wr) (fun i _ => n - (intOf i).toNat)
  case atStart => exact ⟨0, _, 0, Nat.zero_le _, rfl, HR0, (by show _ = _; simp), zeros_bd n, (by show _ ≤ _; rw [List.drop_zero]; omega), HM2, Chg.refl _ _⟩
  case round =>
    obtain ⟨j, ns, t, hj, rfl, HE, HL, HK, HT, HMR, hcr⟩ := hrel
    obtain ⟨wo, hwo⟩ : ∃ W, W = wr := ⟨_, rfl⟩
    rw [← hwo] at HMR hcr ⊢
    clear hwo
    have zr := hcr.size
    have br : Below w.heap.size W2 wo := hcr.below (fun k hk => by simp at hk; omega) (by omega)
    have b5 : Below w.heap.size w wo := b3.trans br
    by_cases hlt : j < n
    · have lj : (j : Int) < (n : Int) := by omega
      have lj0 : (0 : Int) ≤ (j : Int) := by omega
      have hjl : j < m.l.length := by rw [HMETA.out]; exact hlt
      obtain ⟨cb, co, rfl, hblk, c0, c1, c2, c3, hci⟩ := Cd.at_ (HML3.out.below (br.mono hB)) (i := j) (x := m.l[j]) (List.getElem?_eq_getElem hjl)
      have hdrop := fold_drop nCode (b := ns) hjl
      have htot := cTot_drop hjl
      have hvc := HVL.out m.l[j] (List.getElem_mem hjl)
      obtain ⟨c, hc⟩ : ∃ c, c = m.l[j] := ⟨_, rfl⟩
      rw [← hc] at c0 c1 c2 c3 hci hdrop htot hvc
      clear hc
      have hcl := (Cd.E_in hci).l
      have hccap := hcl.cap
      obtain ⟨CA, hCA⟩ : ∃ A, A = c.lA := ⟨_, rfl⟩
      rw [← hCA] at hcl c3
      obtain ⟨S, hS⟩ : ∃ S, S = nCode ns c := ⟨_, rfl⟩
      have HS : Hid (c.l.foldl nInc ns = S) := by show _ = _; rw [hS]; rfl
      have HN : Hid ((m.l.drop (j + 1)).foldl nCode S = R) := by show _ = _; rw [hS, ← hdrop]; exact HE.out
      obtain ⟨U, hU⟩ : ∃ U, U = cTot (m.l.drop (j + 1)) := ⟨_, rfl⟩
      rw [← hU] at htot
      have HU := Lib.hid hU
      have hT2 := HT.out
      rw [htot] at hT2
      clear hdrop htot hS hU HE HT
      have HVC := Lib.hid hvc
      clear hvc
      obtain ⟨W5, hW5⟩ : ∃ W5, W5 = wo.alloc (.cells #[.int .i64 c.p, .int .i64 c.s, .int .i64 c.c, .slice c.lA c.l.length c.lC] 48) := ⟨_, rfl⟩
      rw [← hCA] at hW5
      have bx : Below wo.heap.size wo W5 := by rw [hW5]; exact (Below.refl _ _).alloc (Nat.le_refl _) _
      have zx : wo.heap.size < W5.heap.size := by rw [hW5]; simp
      have xc3 : W5.cell? ⟨wo.heap.size, 3, none⟩ = some (.slice CA c.l.length c.lC) := by obtain ⟨_, _, _, h3⟩ := Cd.Box.new wo c 48; rw [hW5]; rw [← hCA] at h3; exact h3
      clear hCA hci
      have hgr : g < wo.heap.size := by omega
      have HM5 := Lib.hid (HMR.out.below bx hgr)
      have c5 : Chg [g] W2 W5 := hcr.trans (Chg.of_below bx)
      have HCL := Lib.hid (hcl.below (bx.mono (by omega)))
      clear hcl HMR
      have lb : cb < wo.heap.size := by omega
      have z5 : wo.heap.size ≤ W5.heap.size := bx.size
      go_upto_region 5 with fail
      rw [← hW5]
      clear hW5 c0 c1 c2 c3 lb
      go_wp2_with fail
      clear xc3
      go_loopw [24] (fun i wz => ∃ (p : Nat) (es : List Int) (u : Nat), p ≤ c.l.length ∧ i = .int .i64 p ∧ Hid ((c.l.drop p).foldl nInc es = S) ∧ Hid (es.length = n) ∧ Hid (nBd es u) ∧ u + (c.l.length - p) + U ≤ 16001 ∧ Hid (MR wz g es) ∧ Chg [g] W5 wz) (fun i _ => c.l.length - (intOf i).toNat)
      case atStart => exact ⟨0, ns, t, Nat.zero_le _, rfl, HS, HL, HK, by omega, HM5, Chg.refl _ _⟩
      case round =>
        obtain ⟨p, es, u, hp, rfl, HE2, HL2, HK2, hT3, HM6, hc6⟩ := hrel
        obtain ⟨wz, hwz⟩ : ∃ W, W = wr := ⟨_, rfl⟩
        rw [← hwz] at HM6 hc6 ⊢
        clear hwz
        have zz := hc6.size
        have bz : Below w.heap.size W5 wz := hc6.below (fun k hk => by simp at hk; omega) (by omega)
        by_cases hpl : p < c.l.length
        · have lp : (p : Int) < (c.l.length : Int) := by omega
          have lp0 : (0 : Int) ≤ (p : Int) := by omega
          obtain ⟨eb, eo, rfl, hbl, d0, d1, d2, d3, d4, d5, hix⟩ := Nt.at_ (HCL.out.below (bz.mono hB)) (i := p) (x := c.l[p]) (List.getElem?_eq_getElem hpl)
          clear hix
          have hdr := fold_drop nInc (b := es) hpl
          have hvx := HVC.out c.l[p] (List.getElem_mem hpl)
          obtain ⟨x, hx⟩ : ∃ x, x = c.l[p] := ⟨_, rfl⟩
          rw [← hx] at d0 d1 d2 d3 d4 d5 hdr hvx
          clear hx
          have HD := Lib.hid (hdr.symm.trans HE2.out)
          clear hdr HE2
          obtain ⟨W6, hW6⟩ : ∃ W6, W6 = wz.alloc (.cells #[.int .i64 x.o, .int .i64 x.i, .int .i64 x.t.k, .int .i64 x.t.n, .string x.t.t, .slice x.t.A x.t.l.length x.t.c] 53) := ⟨_, rfl⟩
          have by_ : Below wz.heap.size wz W6 := by rw [hW6]; exact (Below.refl _ _).alloc (Nat.le_refl _) _
          have zy : wz.heap.size < W6.heap.size := by rw [hW6]; simp
          have xb : Nt.Box W6 wz.heap.size x := by rw [hW6]; exact Nt.Box.new _ _ _
          have XB := Lib.hid xb
          have HM7 := Lib.hid (HM6.out.below by_ (by omega))
          have c7 : Chg [g] W5 W6 := hc6.trans (Chg.of_below by_)
          clear xb HM6
          have lb : eb < wz.heap.size := by omega
          go_upto_region 8 with fail
          rw [← hW6]
          clear hW6 d0 d1 d2 d3 d4 d5 lb
          obtain ⟨d0, d1, d2, d3, d4, d5⟩ := XB.out
          have hcall := l10Inside_any x.o W6
          have hio : insO x.o = x.inside := rfl
          rw [hio] at hcall
          go_wp2_with fail
          (with_reducible refine hcall.mono ?_)
          rintro e WC ⟨rfl, hWC⟩
          obtain rfl := hWC
          clear hcall hio
          have HMC := HM7
          have cC := c7
          cases hin : x.inside
          · have HS2 : Hid ((c.l.drop (p + 1)).foldl nInc es = S) := by show _ = _; rw [← HD.out, nInc_no hin]
            clear hin hvx
            go_wp2_with fail
            refine ⟨⟨p + 1, es, u, by omega, by go_num, HS2, HL2, HK2, by omega, HMC, cC⟩, by simp [intOf]; omega⟩
          · obtain ⟨hi0, hi1⟩ := hvx hin
            have hyes := nInc_yes (ns := es) hin
            clear hin hvx
            obtain ⟨kk, hkk⟩ : ∃ kk : Nat, x.i = kk := ⟨x.i.toNat, by omega⟩
            rw [hkk] at d1 hi0 hi1 hyes
            rw [Int.toNat_natCast] at hyes hi1
            clear hkk
            have hk2 : kk < n := by have := HMETA.out; omega
            have hk3 : (kk : Int) < (n : Int) := by omega
            have gk := HMC.out.cell (i := kk) (by rw [HL2.out]; exact hk2)
            have gf := HMC.out.frozen kk
            have hvb := HK2.out.getD kk
            have HK3 := Lib.hid (HK2.out.set kk)
            have HMS := HMC.out.set kk (es.getD kk 0 + 1)
            have HS2 : Hid ((c.l.drop (p + 1)).foldl nInc (es.set kk (es.getD kk 0 + 1)) = S) := by show _ = _; rw [← HD.out, hyes]
            have HL3 : Hid ((es.set kk (es.getD kk 0 + 1)).length = n) := by show _ = _; rw [List.length_set]; exact HL2.out
            clear hyes
            obtain ⟨v, hv⟩ : ∃ v, v = es.getD kk 0 := ⟨_, rfl⟩
            rw [← hv] at gk hvb HK3 HMS HS2 HL3
            clear hv
            have hsum := IntWalk.i64_in (v + 1) (by omega)
            obtain ⟨w7, hw7⟩ : ∃ W, W = W6.setCell ⟨g, kk, none⟩ (.int .i64 (v + 1)) := ⟨_, rfl⟩
            rw [← hw7] at HMS
            have HMS2 := Lib.hid HMS
            clear HMS
            have c8 : Chg [g] W5 w7 := by rw [hw7]; exact cC.setCell (.inl (by simp)) _
            go_upto_region 10 with fail
            rw [← hw7]
            clear hw7
            go_wp2_with fail
            refine ⟨⟨p + 1, es.set kk (v + 1), u + 1, by omega, by go_num, HS2, HL3, HK3, by omega, HMS2, c8⟩, by simp [intOf]; omega⟩
        · have hp' : p = c.l.length := by omega
          subst hp'
          have e2 : es = S := by have := HE2.out; rw [List.drop_length] at this; exact this
          subst e2
          have HT4 : Hid (u + cTot (m.l.drop (j + 1)) ≤ 16001) := by show _ ≤ _; rw [← HU.out]; omega
          go_wp2_with fail
          refine ⟨⟨j + 1, es, u, by omega, by go_num, HN, HL2, HK2, HT4, HM6, c5.trans hc6⟩, by simp [intOf]; omega⟩
    · have hj' : j = n := by omega
      subst hj'
      have e2 : ns = R := by have := HE.out; rw [← HMETA.out, List.drop_length] at this; exact this
      subst e2
      obtain ⟨n, hnj⟩ : ∃ n, n = j := ⟨_, rfl⟩
      subst hnj
      have HX5 := Lib.hid (HX2.out.chg hcr (by omega) (by simp; omega))
      obtain ⟨a0, a1⟩ := HX5.out
      have hmr := HMR.out
      go_wp2_with fail
      go_loopw [42] (fun i wr => ∃ k : Nat, k ≤ n ∧ i = .int .i64 k ∧ Hid (treeTo ns m.m k = true) ∧ wr = wo) (fun i _ => n - (intOf i).toNat)
      case atStart => exact ⟨0, Nat.zero_le _, rfl, rfl, rfl⟩
      case round =>
        obtain ⟨k, hk, rfl, HE3, hwr⟩ := hrel
        subst hwr
        by_cases hkl : k < n
        · have lk : (k : Int) < (n : Int) := by omega
          have lk0 : (0 : Int) ≤ (k : Int) := by omega
          have gk := hmr.cell (i := k) (by rw [HL.out]; exact hkl)
          have hsu := treeTo_succ ns m.m k
          rw [HE3.out, Bool.true_and] at hsu
          have HSU := Lib.hid hsu
          have HNO := fun h => Lib.hid (treeTo_no (ns := ns) (main := m.m) (n := n) (k := k) h hkl)
          have HNO2 := Lib.hid HNO
          clear hsu HNO
          obtain ⟨v, hv⟩ : ∃ v, v = ns.getD k 0 := ⟨_, rfl⟩
          rw [← hv] at gk HSU HNO2
          clear hv
          by_cases hv1 : v = 1
          · have e1 : (v != 1) = false := by simp [hv1]
            have HS3 : Hid (treeTo ns m.m (k + 1) = true) := by show _ = _; rw [HSU.out]; simp [hv1]
            clear hv1
            go_wp2_with fail
            refine ⟨⟨k + 1, by omega, by go_num, HS3, (by first | rfl | trivial)⟩, by simp [intOf]; omega⟩
          · have e1 : (v != 1) = true := by simpa using hv1
            by_cases hkm : (k : Int) = m.m
            · have e2 : ((k : Int) != m.m) = false := by simp [hkm]
              have HS3 : Hid (treeTo ns m.m (k + 1) = true) := by show _ = _; rw [HSU.out]; simp [hkm]
              clear hkm hv1
              go_wp2_with fail
              refine ⟨⟨k + 1, by omega, by go_num, HS3, (by first | rfl | trivial)⟩, by simp [intOf]; omega⟩
            · have e2 : ((k : Int) != m.m) = true := by simpa using hkm
              have HQ : Hid (m.tree = false) := by show _ = _; rw [HRT.out]; exact (HNO2.out (by simp [hkm, hv1])).out
              clear hkm hv1
              go_wp2_with fail
              go_ret
              exact ⟨ret_bool HQ.out.symm, b5⟩
        · have hk' : k = n := by omega
          subst hk'
          have HQ : Hid (m.tree = true) := by show _ = _; rw [HRT.out]; exact HE3.out
          go_wp2_with fail
          go_ret
          exact ⟨ret_bool HQ.out.symm, b5⟩
end Go.Proofs.Ytpigpncbjckbcaa
