/-
  namesEachOnce of the program (written by gen/img.py).
-/
import Derived.Test.YtpigpncbjckbcaaImV
import Derived.Deep.DeepCutAuto
namespace Go.Proofs.Ytpigpncbjckbcaa
open Go.RowKit

def Im.once (m : Im) : Bool := (m.cnts ((List.replicate m.l.length 0).set m.m.toNat 1)).all fun v => v == 1
theorem nInc_set {ns : List Int} {x : Nt} {M : Nat} (h : x.inside = true → x.i.toNat ≠ M) : nInc (ns.set M 1) x = (nInc ns x).set M 1 := by
  cases hx : x.inside
  · rw [nInc_no hx, nInc_no hx]
  · have hn := h hx
    rw [nInc_yes hx, nInc_yes hx, List.getD_eq_getElem?_getD, List.getElem?_set_ne (fun e => hn e.symm), ← List.getD_eq_getElem?_getD, List.set_comm _ _ (fun e => hn e.symm)]
theorem nCode_set {c : Cd} {M : Nat} : ∀ {l : List Nt} {ns : List Int}, (∀ x ∈ l, x.inside = true → x.i.toNat ≠ M) → l.foldl nInc (ns.set M 1) = (l.foldl nInc ns).set M 1
  | [], _, _ => rfl
  | x :: r, ns, h => by
    rw [List.foldl_cons, List.foldl_cons, nInc_set (h x (List.mem_cons_self ..))]
    exact nCode_set (c := c) fun y hy => h y (List.mem_cons_of_mem _ hy)
theorem cnts_set {M : Nat} : ∀ {l : List Cd} {ns : List Int}, (∀ c ∈ l, ∀ x ∈ c.l, x.inside = true → x.i.toNat ≠ M) → l.foldl nCode (ns.set M 1) = (l.foldl nCode ns).set M 1
  | [], _, _ => rfl
  | c :: r, ns, h => by
    rw [List.foldl_cons, List.foldl_cons]
    have e : nCode (ns.set M 1) c = (nCode ns c).set M 1 := nCode_set (c := c) (h c (List.mem_cons_self ..))
    rw [e]
    exact cnts_set fun y hy => h y (List.mem_cons_of_mem _ hy)
theorem nCode_len : ∀ (l : List Nt) (ns : List Int), (l.foldl nInc ns).length = ns.length
  | [], _ => rfl
  | x :: r, ns => by rw [List.foldl_cons, nCode_len r, nInc_len]
theorem cnts_len : ∀ (l : List Cd) (ns : List Int), (l.foldl nCode ns).length = ns.length
  | [], _ => rfl
  | c :: r, ns => by rw [List.foldl_cons, cnts_len r]; exact nCode_len _ _
/-- Both say the same of an image whose last code is named by none. -/
theorem Im.once_tree {m : Im} (hm : 0 ≤ m.m) (hv : ∀ c ∈ m.l, ∀ x ∈ c.l, x.inside = true → x.i.toNat ≠ m.m.toNat) : m.once = m.tree := by
  unfold Im.once Im.tree Im.cnts
  rw [cnts_set hv]
  have hl := cnts_len m.l (List.replicate m.l.length 0)
  rw [List.length_replicate] at hl
  obtain ⟨N, hN⟩ : ∃ N, N = m.l.foldl nCode (List.replicate m.l.length 0) := ⟨_, rfl⟩
  rw [← hN] at hl ⊢
  rw [Bool.eq_iff_iff, List.all_eq_true, List.all_eq_true]
  constructor
  · intro h k hk
    have hk := List.mem_range.1 hk
    by_cases he : (k : Int) = m.m
    · simp [he]
    · have hne : m.m.toNat ≠ k := by omega
      have h2 := h ((N.set m.m.toNat 1)[k]'(by rw [List.length_set]; omega)) (List.getElem_mem _)
      rw [List.getElem_set_ne hne] at h2
      have e : N.getD k 0 = N[k]'(by omega) := by rw [List.getD_eq_getElem?_getD, List.getElem?_eq_getElem (by omega)]; rfl
      rw [e, h2]
      rfl
  · intro h v hv2
    obtain ⟨k, hk, rfl⟩ := List.getElem_of_mem hv2
    have hk2 : k < N.length := by rw [List.length_set] at hk; exact hk
    by_cases he : m.m.toNat = k
    · subst he
      simp
    · rw [List.getElem_set_ne he]
      have h2 := h k (List.mem_range.2 (by omega))
      have e : N.getD k 0 = N[k] := by rw [List.getD_eq_getElem?_getD, List.getElem?_eq_getElem hk2]; rfl
      rw [e] at h2
      have h3 : ((k : Int) == m.m) = false := by simp; omega
      rw [h3, Bool.or_false] at h2
      exact h2
theorem set_bd (n M : Nat) : nBd ((List.replicate n 0).set M 1) 1 := fun v hv => by
  rcases List.mem_or_eq_of_mem_set hv with hv | rfl
  · rw [List.eq_of_mem_replicate hv]; exact ⟨Int.le_refl _, by simp⟩
  · exact ⟨by omega, by simp⟩
theorem all_ones (l : List Int) : (!(l.any fun v => v != 1)) = l.all fun v => v == 1 := by
  induction l with
  | nil => rfl
  | cons a r ih =>
    rw [List.any_cons, List.all_cons, Bool.not_or, ih]
    congr 1
    simp [bne]

set_option maxRecDepth 100000 in
set_option maxHeartbeats 2000000 in
theorem isOther_any (v : Int) (w : World) : Calls Try.prog 55 #[.int .i64 v] w fun e w' => e = .returned (.bool (v != 1)) ∧ w = w' := by
  go_enter Try.func55, Try.ntmps55
  go_wp2_with fail
  go_ret
  exact ⟨rfl, rfl⟩
set_option maxRecDepth 100000 in
set_option maxHeartbeats 2000000 in
theorem conOther_any (g : Nat) (l : List Int) (w : World) (hm : MR w g l) (hn : l.length ≤ 1500) :
    Calls Try.prog 56 #[.slice (some ⟨g, 0, none⟩) l.length l.length, .func (.func 55) #[] #[]] w fun e w' => e = .returned (.bool (l.any fun v => v != 1)) ∧ w = w' := by
  have key : Calls Try.prog 71 #[.slice (some ⟨g, 0, none⟩) l.length l.length, .func (.func 55) #[] #[]] w fun e w' => (∃ r : Int, e = .returned (.int .i64 r) ∧ decide (0 ≤ r) = l.any fun v => v != 1) ∧ w = w' := by
    go_enter Try.func71, Try.ntmps71
    go_wp2_with fail
    go_loopw [5, 8] (fun _ i wr => ∃ j : Nat, j ≤ l.length ∧ i = .int .i64 j ∧ Hid (∀ x ∈ l.take j, (x != 1) = false) ∧ w = wr) (fun _ i _ => l.length - (intOf i).toNat)
    case atStart => exact ⟨0, Nat.zero_le _, rfl, by simp [Hid], rfl⟩
    case round =>
      obtain ⟨j, hj, rfl, HN, hww⟩ := hrel
      subst hww
      by_cases hlt : j < l.length
      · have g2 : (j : Int) < (l.length : Int) := by omega
        have g1 : (0 : Int) ≤ (j : Int) := by omega
        have gc := hm.cell hlt
        have e : l.getD j 0 = l[j] := by rw [List.getD_eq_getElem?_getD, List.getElem?_eq_getElem hlt]; rfl
        rw [e] at gc
        clear e
        have hc := isOther_any l[j] w
        obtain ⟨PB, hPB⟩ : ∃ z, z = (l[j] != 1) := ⟨_, rfl⟩
        rw [← hPB] at hc
        have HPB := Lib.hid hPB
        clear hPB
        obtain ⟨v, hv⟩ : ∃ v, v = l[j] := ⟨_, rfl⟩
        rw [← hv] at hc gc
        clear hv
        go_wp2_with fail
        (with_reducible refine hc.mono ?_)
        clear hc
        rintro e w1 ⟨rfl, hww⟩
        subst hww
        clear gc
        cases PB
        · have HN2 : Hid (∀ x ∈ l.take (j + 1), (x != 1) = false) := inone_succ (p := fun x => x != 1) hlt HN.out HPB.out.symm
          go_wp2_with fail
          refine ⟨⟨j + 1, by omega, by go_num, HN2, (by first | rfl | trivial)⟩, by simp [intOf]; omega⟩
        · have HY : Hid ((l.any fun v => v != 1) = true) := iany_yes (p := fun x => x != 1) hlt HPB.out.symm
          go_wp2_with fail
          go_ret
          exact ⟨⟨j, rfl, by rw [HY.out]; simp⟩, rfl⟩
      · have hj' : j = l.length := by omega
        subst hj'
        have HF : Hid ((l.any fun v => v != 1) = false) := iany_none (p := fun x => x != 1) (by have := HN.out; rwa [List.take_length] at this)
        go_wp2_with fail
        go_ret
        exact ⟨⟨-1, rfl, by rw [HF.out]; rfl⟩, rfl⟩
  go_enter Try.func56, Try.ntmps56
  go_wp2_with fail
  (with_reducible refine key.mono ?_)
  rintro e w1 ⟨⟨r, rfl, hr⟩, hww⟩
  subst hww
  have HR := Lib.hid hr
  clear hr key
  go_wp2_with fail
  go_ret
  exact ⟨ret_bool HR.out, rfl⟩

set_option maxRecDepth 100000 in
set_option maxHeartbeats 8000000 in
theorem namesEach_any (m : Im) (B : Nat) (w : World) (hm : Im.E.In w B m) (hB : B ≤ w.heap.size) (hv : ∀ c ∈ m.l, ∀ x ∈ c.l, x.inside = true → 0 ≤ x.i ∧ x.i.toNat < m.l.length) (hT : cTot m.l ≤ 16000) (hn : m.l.length ≤ 1500) (hm0 : 0 ≤ m.m) (hm1 : m.m < (m.l.length : Int)) :
    Calls Try.prog 38 #[Im.val m] w fun e w' => e = .returned (.bool m.once) ∧ Below w.heap.size w w' := by
  obtain ⟨R, hR⟩ : ∃ R, R = m.cnts ((List.replicate m.l.length 0).set m.m.toNat 1) := ⟨_, rfl⟩
  have HRT : Hid (m.once = !(R.any fun v => v != 1)) := by show _ = _; rw [hR, all_ones]; rfl
  have HR0 : Hid (m.l.foldl nCode ((List.replicate m.l.length 0).set m.m.toNat 1) = R) := by show _ = _; rw [hR]; rfl
  clear hR
  obtain ⟨W1, hW1⟩ : ∃ W1, W1 = w.alloc (.cells #[.slice m.lA m.l.length m.lC, .int .i64 m.m] 31) := ⟨_, rfl⟩
  have b1 : Below w.heap.size w W1 := by rw [hW1]; exact (Below.refl _ _).alloc (Nat.le_refl _) _
  have z1 : w.heap.size + 1 ≤ W1.heap.size := by rw [hW1]; simp
  have xa : Im.Box W1 w.heap.size m := by rw [hW1]; exact Im.Box.new _ _ _
  have HML := Lib.hid (Im.E_in (hm.below (b1.mono hB))).l
  have hcapm := (Im.E_in hm).l.cap
  have HVL := Lib.hid hv
  clear hv
  have XA := Lib.hid xa
  unfold Im.val
  obtain ⟨a0, a1⟩ := xa
  obtain ⟨MA, hMA⟩ : ∃ A, A = m.lA := ⟨_, rfl⟩
  have HML2 := HML.out
  rw [← hMA] at HML2 a0
  have HML := Lib.hid HML2
  clear HML2
  obtain ⟨n, hnn⟩ : ∃ n, n = m.l.length := ⟨_, rfl⟩
  rw [← hnn] at a0 hn hcapm hm1
  have HMETA := Lib.hid hnn.symm
  have HMAE := Lib.hid hMA.symm
  have ln0 : (0 : Int) ≤ (n : Int) := by omega
  obtain ⟨i0, hI0, hZ0, hZ1, hZ2⟩ := info_parts infoI_
  have hmk := fun W => run_make_rowI (P := Try.prog) 36 3 i0 _ Try.underlying36 hI0 hZ0 .i64 .i64 n n (Nat.le_refl _) (by rw [hZ2]; omega) (by omega) W
  rw [hZ1] at hmk
  have hmc : madeCells (Value.int .i64 0).cells (n * 1) = ((List.replicate n (0 : Int)).map (Value.int .i64)).toArray := by
    apply Array.ext
    · simp [madeCells]
    · intro i h1 h2
      simp [madeCells, Value.cells, Nat.mod_one]
  obtain ⟨Z, hZ⟩ : ∃ Z, Z = ((List.replicate n (0 : Int)).map (Value.int .i64)).toArray := ⟨_, rfl⟩
  rw [hmc, ← hZ] at hmk
  clear hmc
  obtain ⟨g, hg⟩ : ∃ g, g = W1.heap.size := ⟨_, rfl⟩
  obtain ⟨W2, hW2⟩ : ∃ W2, W2 = W1.alloc (.cells Z 3) := ⟨_, rfl⟩
  have b2 : Below W1.heap.size W1 W2 := by rw [hW2]; exact (Below.refl _ _).alloc (Nat.le_refl _) _
  have z2 : W2.heap.size = g + 1 := by rw [hW2, hg]; simp
  have hm2 : MR W2 g (List.replicate n 0) := by
    unfold MR
    rw [hW2, hg, ← hZ]
    exact D.Blk.new _ _ _
  clear hZ
  have HM2 := Lib.hid hm2
  clear hm2
  have gw : w.heap.size + 1 ≤ g := by omega
  have bb2 : Below g W1 W2 := by rw [hg]; exact b2
  have gl2 : g < W2.heap.size := by omega
  go_enter Try.func38, Try.ntmps38
  go_upto_region 1 with fail
  rw [← hW1, ← hMA, ← hnn]
  clear hW1 hMA hnn
  go_upto_region 2 with fail
  rw [← hW2, ← hg]
  clear hW2 hmk hg a0 a1
  obtain ⟨M, hM⟩ : ∃ M : Nat, m.m = M := ⟨m.m.toNat, by omega⟩
  obtain ⟨W3, hW3⟩ : ∃ W, W = W2.setCell ⟨g, M, none⟩ (.int .i64 1) := ⟨_, rfl⟩
  have hMn : M < n := by omega
  have hm3 : MR W3 g ((List.replicate n 0).set M 1) := by rw [hW3]; exact HM2.out.set M 1
  have gc := HM2.out.cell (i := M) (by simpa using hMn)
  have gf := HM2.out.frozen M
  have bb3 : Below g W1 W3 := by rw [hW3]; exact bb2.setCell (Nat.le_refl _) _
  obtain ⟨a0, a1⟩ := XA.out.below bb2 (by omega)
  rw [hM] at a1
  have lM0 : (0 : Int) ≤ (M : Int) := by omega
  have lM : (M : Int) < (n : Int) := by omega
  have HMM := Lib.hid hM
  clear hM
  go_upto_region 3 with fail
  rw [← hW3]
  clear gc gf a0 a1
  have zW3 : W3.heap.size = W2.heap.size := by rw [hW3]; simp
  clear hW3 bb2 HM2 b2
  obtain ⟨W2', hW2'⟩ : ∃ W, W = W3 := ⟨_, rfl⟩
  rw [← hW2'] at hm3 bb3 zW3 ⊢
  clear hW2'
  have gl3 : g < W2'.heap.size := by omega
  clear z2 zW3 gl2
  have HX2 := Lib.hid (XA.out.below bb3 (by omega))
  have HML3 := Lib.hid (HML.out.below (bb3.mono (by omega)))
  have b3 : Below w.heap.size w W2' := b1.trans (bb3.mono (by omega))
  obtain ⟨a0, a1⟩ := HX2.out
  rw [HMAE.out, HMETA.out] at a0
  have HM3 := Lib.hid hm3
  clear hm3
  rw [HMETA.out] at HR0
  rw [HMM.out, Int.toNat_natCast] at HR0
  go_wp2_with fail
  clear a0 a1
  go_loopw [20] (fun i wr => ∃ (j : Nat) (ns : List Int) (t : Nat), j ≤ n ∧ i = .int .i64 j ∧ Hid ((m.l.drop j).foldl nCode ns = R) ∧ Hid (ns.length = n) ∧ Hid (nBd ns t) ∧ Hid (t + cTot (m.l.drop j) ≤ 16001) ∧ Hid (MR wr g ns) ∧ Chg [g] W2' wr) (fun i _ => n - (intOf i).toNat)
  case atStart => exact ⟨0, _, 1, Nat.zero_le _, rfl, HR0, (by show _ = _; simp), set_bd n M, (by show _ ≤ _; rw [List.drop_zero]; omega), HM3, Chg.refl _ _⟩
  case round =>
    obtain ⟨j, ns, t, hj, rfl, HE, HL, HK, HT, HMR, hcr⟩ := hrel
    obtain ⟨wo, hwo⟩ : ∃ W, W = wr := ⟨_, rfl⟩
    rw [← hwo] at HMR hcr ⊢
    clear hwo
    have zr := hcr.size
    have br : Below w.heap.size W2' wo := hcr.below (fun k hk => by simp at hk; omega) (by omega)
    have b5 : Below w.heap.size w wo := b3.trans br
    by_cases hlt : j < n
    · have lj : (j : Int) < (n : Int) := by omega
      have lj0 : (0 : Int) ≤ (j : Int) := by omega
      have hjl : j < m.l.length := by rw [HMETA.out]; exact hlt
      obtain ⟨cb, co, rfl, hblk, c0, c1, c2, c3, hci⟩ := Cd.at_ (HML3.out.below (br.mono hB)) (i := j) (x := m.l[j]) (List.getElem?_eq_getElem hjl)
      have hdrop := fold_drop nCode (b := ns) hjl
      have htot := cTot_drop hjl
      have hvc := HVL.out m.l[j] (List.getElem_mem hjl)
      obtain ⟨c, hc⟩ : ∃ c, c = m.l[j] := ⟨_, rfl⟩
      rw [← hc] at c0 c1 c2 c3 hci hdrop htot hvc
      clear hc
      have hcl := (Cd.E_in hci).l
      have hccap := hcl.cap
      obtain ⟨CA, hCA⟩ : ∃ A, A = c.lA := ⟨_, rfl⟩
      rw [← hCA] at hcl c3
      obtain ⟨S, hS⟩ : ∃ S, S = nCode ns c := ⟨_, rfl⟩
      have HS : Hid (c.l.foldl nInc ns = S) := by show _ = _; rw [hS]; rfl
      have HN : Hid ((m.l.drop (j + 1)).foldl nCode S = R) := by show _ = _; rw [hS, ← hdrop]; exact HE.out
      obtain ⟨U, hU⟩ : ∃ U, U = cTot (m.l.drop (j + 1)) := ⟨_, rfl⟩
      rw [← hU] at htot
      have HU := Lib.hid hU
      have hT2 := HT.out
      rw [htot] at hT2
      clear hdrop htot hS hU HE HT
      have HVC := Lib.hid hvc
      clear hvc
      obtain ⟨W5, hW5⟩ : ∃ W5, W5 = wo.alloc (.cells #[.int .i64 c.p, .int .i64 c.s, .int .i64 c.c, .slice c.lA c.l.length c.lC] 48) := ⟨_, rfl⟩
      rw [← hCA] at hW5
      have bx : Below wo.heap.size wo W5 := by rw [hW5]; exact (Below.refl _ _).alloc (Nat.le_refl _) _
      have zx : wo.heap.size < W5.heap.size := by rw [hW5]; simp
      have xc3 : W5.cell? ⟨wo.heap.size, 3, none⟩ = some (.slice CA c.l.length c.lC) := by obtain ⟨_, _, _, h3⟩ := Cd.Box.new wo c 48; rw [hW5]; rw [← hCA] at h3; exact h3
      clear hCA hci
      have hgr : g < wo.heap.size := by omega
      have HM5 := Lib.hid (HMR.out.below bx hgr)
      have c5 : Chg [g] W2' W5 := hcr.trans (Chg.of_below bx)
      have HCL := Lib.hid (hcl.below (bx.mono (by omega)))
      clear hcl HMR
      have lb : cb < wo.heap.size := by omega
      have z5 : wo.heap.size ≤ W5.heap.size := bx.size
      go_upto_region 6 with fail
      rw [← hW5]
      clear hW5 c0 c1 c2 c3 lb
      go_wp2_with fail
      clear xc3
      go_loopw [27] (fun i wz => ∃ (p : Nat) (es : List Int) (u : Nat), p ≤ c.l.length ∧ i = .int .i64 p ∧ Hid ((c.l.drop p).foldl nInc es = S) ∧ Hid (es.length = n) ∧ Hid (nBd es u) ∧ u + (c.l.length - p) + U ≤ 16001 ∧ Hid (MR wz g es) ∧ Chg [g] W5 wz) (fun i _ => c.l.length - (intOf i).toNat)
      case atStart => exact ⟨0, ns, t, Nat.zero_le _, rfl, HS, HL, HK, by omega, HM5, Chg.refl _ _⟩
      case round =>
        obtain ⟨p, es, u, hp, rfl, HE2, HL2, HK2, hT3, HM6, hc6⟩ := hrel
        obtain ⟨wz, hwz⟩ : ∃ W, W = wr := ⟨_, rfl⟩
        rw [← hwz] at HM6 hc6 ⊢
        clear hwz
        have zz := hc6.size
        have bz : Below w.heap.size W5 wz := hc6.below (fun k hk => by simp at hk; omega) (by omega)
        by_cases hpl : p < c.l.length
        · have lp : (p : Int) < (c.l.length : Int) := by omega
          have lp0 : (0 : Int) ≤ (p : Int) := by omega
          obtain ⟨eb, eo, rfl, hbl, d0, d1, d2, d3, d4, d5, hix⟩ := Nt.at_ (HCL.out.below (bz.mono hB)) (i := p) (x := c.l[p]) (List.getElem?_eq_getElem hpl)
          clear hix
          have hdr := fold_drop nInc (b := es) hpl
          have hvx := HVC.out c.l[p] (List.getElem_mem hpl)
          obtain ⟨x, hx⟩ : ∃ x, x = c.l[p] := ⟨_, rfl⟩
          rw [← hx] at d0 d1 d2 d3 d4 d5 hdr hvx
          clear hx
          have HD := Lib.hid (hdr.symm.trans HE2.out)
          clear hdr HE2
          obtain ⟨W6, hW6⟩ : ∃ W6, W6 = wz.alloc (.cells #[.int .i64 x.o, .int .i64 x.i, .int .i64 x.t.k, .int .i64 x.t.n, .string x.t.t, .slice x.t.A x.t.l.length x.t.c] 53) := ⟨_, rfl⟩
          have by_ : Below wz.heap.size wz W6 := by rw [hW6]; exact (Below.refl _ _).alloc (Nat.le_refl _) _
          have zy : wz.heap.size < W6.heap.size := by rw [hW6]; simp
          have xb : Nt.Box W6 wz.heap.size x := by rw [hW6]; exact Nt.Box.new _ _ _
          have XB := Lib.hid xb
          have HM7 := Lib.hid (HM6.out.below by_ (by omega))
          have c7 : Chg [g] W5 W6 := hc6.trans (Chg.of_below by_)
          clear xb HM6
          have lb : eb < wz.heap.size := by omega
          go_upto_region 9 with fail
          rw [← hW6]
          clear hW6 d0 d1 d2 d3 d4 d5 lb
          obtain ⟨d0, d1, d2, d3, d4, d5⟩ := XB.out
          have hcall := namesCode_any x W6
          unfold Nt.val at hcall
          go_wp2_with fail
          clear d0 d1 d2 d3 d4 d5
          (with_reducible refine hcall.mono ?_)
          rintro e WC ⟨rfl, hWC⟩
          clear hcall
          have zwc := hWC.size
          have HMC := Lib.hid (HM7.out.below hWC (by omega))
          have cC : Chg [g] W5 WC := c7.trans (Chg.of_below hWC)
          obtain ⟨d0, d1, d2, d3, d4, d5⟩ := XB.out.below hWC zy
          cases hin : x.inside
          · have HS2 : Hid ((c.l.drop (p + 1)).foldl nInc es = S) := by show _ = _; rw [← HD.out, nInc_no hin]
            clear hin hvx
            go_wp2_with fail
            refine ⟨⟨p + 1, es, u, by omega, by go_num, HS2, HL2, HK2, by omega, HMC, cC⟩, by simp [intOf]; omega⟩
          · obtain ⟨hi0, hi1⟩ := hvx hin
            have hyes := nInc_yes (ns := es) hin
            clear hin hvx
            obtain ⟨kk, hkk⟩ : ∃ kk : Nat, x.i = kk := ⟨x.i.toNat, by omega⟩
            rw [hkk] at d1 hi0 hi1 hyes
            rw [Int.toNat_natCast] at hyes hi1
            clear hkk
            have hk2 : kk < n := by have := HMETA.out; omega
            have hk3 : (kk : Int) < (n : Int) := by omega
            have gk := HMC.out.cell (i := kk) (by rw [HL2.out]; exact hk2)
            have gf := HMC.out.frozen kk
            have hvb := HK2.out.getD kk
            have HK3 := Lib.hid (HK2.out.set kk)
            have HMS := HMC.out.set kk (es.getD kk 0 + 1)
            have HS2 : Hid ((c.l.drop (p + 1)).foldl nInc (es.set kk (es.getD kk 0 + 1)) = S) := by show _ = _; rw [← HD.out, hyes]
            have HL3 : Hid ((es.set kk (es.getD kk 0 + 1)).length = n) := by show _ = _; rw [List.length_set]; exact HL2.out
            clear hyes
            obtain ⟨v, hv⟩ : ∃ v, v = es.getD kk 0 := ⟨_, rfl⟩
            rw [← hv] at gk hvb HK3 HMS HS2 HL3
            clear hv
            have hsum := IntWalk.i64_in (v + 1) (by omega)
            obtain ⟨w7, hw7⟩ : ∃ W, W = WC.setCell ⟨g, kk, none⟩ (.int .i64 (v + 1)) := ⟨_, rfl⟩
            rw [← hw7] at HMS
            have HMS2 := Lib.hid HMS
            clear HMS
            have c8 : Chg [g] W5 w7 := by rw [hw7]; exact cC.setCell (.inl (by simp)) _
            go_upto_region 11 with fail
            rw [← hw7]
            clear hw7
            go_wp2_with fail
            refine ⟨⟨p + 1, es.set kk (v + 1), u + 1, by omega, by go_num, HS2, HL3, HK3, by omega, HMS2, c8⟩, by simp [intOf]; omega⟩
        · have hp' : p = c.l.length := by omega
          subst hp'
          have e2 : es = S := by have := HE2.out; rw [List.drop_length] at this; exact this
          subst e2
          have HT4 : Hid (u + cTot (m.l.drop (j + 1)) ≤ 16001) := by show _ ≤ _; rw [← HU.out]; omega
          go_wp2_with fail
          refine ⟨⟨j + 1, es, u, by omega, by go_num, HN, HL2, HK2, HT4, HM6, c5.trans hc6⟩, by simp [intOf]; omega⟩
    · have hj' : j = n := by omega
      subst hj'
      have e2 : ns = R := by have := HE.out; rw [← HMETA.out, List.drop_length] at this; exact this
      subst e2
      have hmr := HMR.out
      have hlen := HL.out
      have hcon := conOther_any g ns wo hmr (by omega)
      rw [hlen] at hcon
      obtain ⟨X, hX⟩ : ∃ X, X = ns.any fun v => v != 1 := ⟨_, rfl⟩
      rw [← hX] at hcon HRT
      clear hX hlen hmr
      obtain ⟨n, hnj⟩ : ∃ n, n = j := ⟨_, rfl⟩
      subst hnj
      go_wp2_with fail
      (with_reducible refine hcon.mono ?_)
      rintro e wq ⟨rfl, hwq⟩
      obtain rfl := hwq
      clear hcon
      go_wp2_with fail
      go_ret
      exact ⟨ret_bool HRT.out.symm, b5⟩
end Go.Proofs.Ytpigpncbjckbcaa
