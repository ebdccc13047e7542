/-
  Valid codes: the model (written by gen/imc.py).
-/
import Derived.Test.YtpigpncbjckbcaaImC
import Derived.Test.YtpigpncbjckbcaaImX
import Derived.Laws.EntriesVeiled
import Derived.Deep.DeepCutAuto
namespace Go.Proofs.Ytpigpncbjckbcaa
open Go.RowKit


set_option maxRecDepth 100000 in
set_option maxHeartbeats 4000000 in
theorem l10Code_any (m : Im) (c : Cd) (k : Nat) (B : Nat) (w : World) (hc : m.l[k]? = some c) (hin : Im.E.In w B m) (hB : B ≤ w.heap.size) (hbk : m.bulk ≤ 1500000) :
    Calls Try.prog 30 #[Im.val m, .int .i64 (k : Int)] w fun e w' => e = .returned (.bool (Cd.okAt true m.l k c)) ∧ Below w.heap.size w w' := by
  obtain ⟨W1, hW1⟩ : ∃ W1, W1 = w.alloc (.cells #[.slice m.lA m.l.length m.lC, .int .i64 m.m] 31) := ⟨_, rfl⟩
  have b1 : Below w.heap.size w W1 := by rw [hW1]; exact (Below.refl _ _).alloc (Nat.le_refl _) _
  have z1 : w.heap.size + 1 ≤ W1.heap.size := by rw [hW1]; simp
  have xa : Im.Box W1 w.heap.size m := by rw [hW1]; exact Im.Box.new _ _ _
  have hcs := (Im.E_in (hin.below (b1.mono hB))).l
  have hkl : k < m.l.length := (List.getElem?_eq_some_iff.1 hc).1
  obtain ⟨cb, co, eC, hblk, c0, c1, c2, c3, hci⟩ := Cd.at_ hcs (i := k) (x := c) hc
  obtain ⟨W2, hW2⟩ : ∃ W2, W2 = W1.alloc (.cells #[.int .i64 c.p, .int .i64 c.s, .int .i64 c.c, .slice c.lA c.l.length c.lC] 48) := ⟨_, rfl⟩
  have b2 : Below W1.heap.size W1 W2 := by rw [hW2]; exact (Below.refl _ _).alloc (Nat.le_refl _) _
  have z2 : W1.heap.size + 1 ≤ W2.heap.size := by rw [hW2]; simp
  have xc : Cd.Box W2 W1.heap.size c := by rw [hW2]; exact Cd.Box.new _ _ _
  have xa2 := xa.below b2 (by omega)
  have XA := Lib.hid xa2
  have HI2 := Lib.hid ((hin.below (b1.mono hB)).below (b2.mono (by omega)))
  have HL2 := Lib.hid ((Cd.E_in (hci.below (b2.mono (by omega)))).l)
  have b3 : Below w.heap.size w W2 := b1.trans (b2.mono (by omega))
  have hcap := hcs.cap
  have hcapl := HL2.out.cap
  obtain ⟨a0, a1⟩ := xa
  rw [eC] at a0
  clear eC hci
  have lk0 : (0 : Int) ≤ (k : Int) := by omega
  have lk : (k : Int) < (m.l.length : Int) := by omega
  have lb : cb < W1.heap.size := by omega
  have la : w.heap.size < W1.heap.size := by omega
  have hbc := Im.bulk_code (List.mem_of_getElem? hc)
  obtain ⟨CA, hCA⟩ : ∃ A, A = c.lA := ⟨_, rfl⟩
  have hl3 := HL2.out
  rw [← hCA] at hl3
  clear HL2
  have HL2 := Lib.hid hl3
  clear hl3
  unfold Im.val
  by_cases g0 : 0 ≤ c.p ∧ c.p ≤ 8
  · skip
    by_cases g1 : c.p ≤ c.s ∧ c.s ≤ 500
    · skip
      by_cases g2 : 0 ≤ c.c ∧ c.c ≤ 500
      · skip
        by_cases g3 : (1 : Int) ≤ (c.l.length : Int) ∧ (c.l.length : Int) ≤ 4000
        · skip
          have HH : c.hdr = true := Cd.hdr_in (by omega)
          have HQ : Hid (Cd.okAt true m.l k c = c.l.all (Nt.good true m.l k c)) := by show _ = _; unfold Cd.okAt; rw [HH]; rfl
          have h9 : 0 ≤ c.s ∧ c.s ≤ 500 := by omega
          clear HH
          go_enter Try.func30, Try.ntmps30
          go_upto_region 1 with fail
          rw [← hW1]
          clear hW1
          go_upto_region 2 with fail
          rw [← hW2]
          clear hW2 a0 a1 c0 c1 c2 c3 lb la
          obtain ⟨c0, c1, c2, c3⟩ := xc
          rw [← hCA] at c3
          clear hCA
          go_wp2_with fail
          (with_reducible refine (l1In_any _ _ _ _).mono ?_)
          rintro e v1 ⟨rfl, hv1⟩
          obtain rfl := hv1
          rw [decide_eq_true g0]
          go_wp2_with fail
          (with_reducible refine (l1In_any _ _ _ _).mono ?_)
          rintro e v1 ⟨rfl, hv1⟩
          obtain rfl := hv1
          rw [decide_eq_true g1]
          go_wp2_with fail
          (with_reducible refine (l1In_any _ _ _ _).mono ?_)
          rintro e v1 ⟨rfl, hv1⟩
          obtain rfl := hv1
          rw [decide_eq_true g2]
          go_wp2_with fail
          (with_reducible refine (l1In_any _ _ _ _).mono ?_)
          rintro e v1 ⟨rfl, hv1⟩
          obtain rfl := hv1
          rw [decide_eq_true g3]
          clear g0 g1 g2 g3
          go_wp2_with fail
          clear c0 c1 c2 c3
          go_loopw [41] (fun i wr => ∃ j : Nat, j ≤ c.l.length ∧ i = .int .i64 j ∧ Hid ((c.l.take j).all (Nt.good true m.l k c) = true) ∧ Below W2.heap.size W2 wr) (fun i _ => c.l.length - (intOf i).toNat)
          case atStart => exact ⟨0, Nat.zero_le _, rfl, by simp [Hid], Below.refl _ _⟩
          case round =>
            obtain ⟨j, hj, rfl, HE, hbr⟩ := hrel
            have zr := hbr.size
            obtain ⟨a0, a1⟩ := XA.out.below hbr (by omega)
            by_cases hlt : j < c.l.length
            · have lj : (j : Int) < (c.l.length : Int) := by omega
              obtain ⟨eb, eo, rfl, hbl, d0, d1, d2, d3, d4, d5, hix⟩ := Nt.at_ (HL2.out.below (hbr.mono (by omega))) (i := j) (x := c.l[j]) (List.getElem?_eq_getElem hlt)
              have hmem := List.getElem_mem hlt
              obtain ⟨x, hx⟩ : ∃ x, x = c.l[j] := ⟨_, rfl⟩
              rw [← hx] at d0 d1 d2 d3 d4 d5 hix hmem
              have hbx := Cd.bulk_instr hmem
              have hsx : x.t.size ≤ 2000000 := by have := D.bulk_size x.t; omega
              have HT : Hid ((c.l.take (j + 1)).all (Nt.good true m.l k c) = Nt.good true m.l k c x) := by
                show _ = _
                rw [List.take_succ_eq_append_getElem hlt, List.all_append, HE.out, ← hx]
                simp
              have HF : Nt.good true m.l k c x = false → c.l.all (Nt.good true m.l k c) = false := fun h => by
                cases hh : c.l.all (Nt.good true m.l k c)
                · rfl
                · have := List.all_eq_true.1 hh x hmem; rw [h] at this; exact absurd this (by decide)
              have HFh := Lib.hid HF
              clear HF hx hmem
              obtain ⟨W3, hW3⟩ : ∃ W3, W3 = wr.alloc (.cells #[.int .i64 x.o, .int .i64 x.i, .int .i64 x.t.k, .int .i64 x.t.n, .string x.t.t, .slice x.t.A x.t.l.length x.t.c] 53) := ⟨_, rfl⟩
              have b4 : Below wr.heap.size wr W3 := by rw [hW3]; exact (Below.refl _ _).alloc (Nat.le_refl _) _
              have z3 : wr.heap.size < W3.heap.size := by rw [hW3]; simp
              have xb : Nt.Box W3 wr.heap.size x := by rw [hW3]; exact Nt.Box.new _ _ _
              have hv := l10Instr_any x B W3 (hix.below (b4.mono (by omega))) (by omega) hsx
              have lb : eb < wr.heap.size := by omega
              have XA3 := Lib.hid ((XA.out.below hbr (by omega)).below b4 (by omega))
              have HI3 := HI2.out.below (hbr.mono (by omega))
              have HI3 := Lib.hid (HI3.below (b4.mono (by omega)))
              have XB := Lib.hid xb
              have hb4 := hbr.trans (b4.mono zr)
              cases hok : x.ok
              · skip
                have HN : Hid (Cd.okAt true m.l k c = false) := by show _ = _; rw [HQ.out]; exact HFh.out (by unfold Nt.good; rw [hok]; rfl)
                rw [hok] at hv
                unfold Nt.val at hv
                clear hok xb
                go_upto_region 7 with fail
                rw [← hW3]
                clear hW3 a0 a1 d0 d1 d2 d3 d4 d5 lb
                obtain ⟨d0, d1, d2, d3, d4, d5⟩ := XB.out
                go_wp2_with fail
                (with_reducible refine hv.mono ?_)
                rintro e w4 ⟨rfl, hb5⟩
                go_wp2_with fail
                go_ret
                exact ⟨ret_bool HN.out.symm, b3.trans ((hb4.trans (hb5.mono (by omega))).mono (by omega))⟩
              · obtain ⟨ho, hi0, hi1⟩ := Nt.ok_out hok
                have HG : Hid (Nt.good true m.l k c x = x.within true m.l k c) := by show _ = _; unfold Nt.good; rw [hok]; rfl
                have HW : Hid (∀ u : World, Below W3.heap.size W3 u → Calls Try.prog 46 #[Im.val m, .int .i64 (k : Int), Nt.val x] u fun e w' => e = .returned (.bool (x.within true m.l k c)) ∧ Below u.heap.size u w') :=
                  fun u hu => specWi_any m c k x B u hc ho hi0 hi1 h9 (HI3.out.below (hu.mono (by omega))) (by have := hu.size; omega)
                obtain ⟨X, hX⟩ : ∃ X, X = x.within true m.l k c := ⟨_, rfl⟩
                rw [← hX] at HG HW
                clear hX ho hi0 hi1
                rw [hok] at hv
                unfold Nt.val at hv HW
                unfold Im.val at HW
                clear hok xb
                go_upto_region 7 with fail
                rw [← hW3]
                clear hW3 a0 a1 d0 d1 d2 d3 d4 d5 lb
                obtain ⟨d0, d1, d2, d3, d4, d5⟩ := XB.out
                go_wp2_with fail
                clear d0 d1 d2 d3 d4 d5
                (with_reducible refine hv.mono ?_)
                rintro e w4 ⟨rfl, hb5⟩
                have z5 := hb5.size
                obtain ⟨d0, d1, d2, d3, d4, d5⟩ := XB.out.below hb5 z3
                obtain ⟨a0, a1⟩ := XA3.out.below hb5 (by omega)
                go_wp2_with fail
                clear a0 a1 d0 d1 d2 d3 d4 d5
                (with_reducible refine (HW.out _ hb5).mono ?_)
                rintro e w5 ⟨rfl, hb6⟩
                have hb7 := hb4.trans ((hb5.trans (hb6.mono z5)).mono (by omega))
                cases X
                · have HN : Hid (Cd.okAt true m.l k c = false) := by show _ = _; rw [HQ.out]; exact HFh.out HG.out
                  go_wp2_with fail
                  go_ret
                  exact ⟨ret_bool HN.out.symm, b3.trans (hb7.mono (by omega))⟩
                · have HN : Hid ((c.l.take (j + 1)).all (Nt.good true m.l k c) = true) := by show _ = _; rw [HT.out, HG.out]
                  go_wp2_with fail
                  refine ⟨⟨j + 1, by omega, by go_num, HN, hb7⟩, by simp [intOf]; omega⟩
            · have hj' : j = c.l.length := by omega
              subst hj'
              have HN : Hid (Cd.okAt true m.l k c = true) := by show _ = _; rw [HQ.out]; have := HE.out; rwa [List.take_length] at this
              go_wp2_with fail
              go_ret
              exact ⟨ret_bool HN.out.symm, b3.trans (hbr.mono (by omega))⟩
        · skip
          have HH : c.hdr = false := Cd.hdr_no (by omega)
          have HN : Hid (Cd.okAt true m.l k c = false) := by show _ = _; unfold Cd.okAt; rw [HH]; rfl
          clear HH
          go_enter Try.func30, Try.ntmps30
          go_upto_region 1 with fail
          rw [← hW1]
          clear hW1
          go_upto_region 2 with fail
          rw [← hW2]
          clear hW2 a0 a1 c0 c1 c2 c3 lb la
          obtain ⟨c0, c1, c2, c3⟩ := xc
          rw [← hCA] at c3
          clear hCA
          go_wp2_with fail
          (with_reducible refine (l1In_any _ _ _ _).mono ?_)
          rintro e v1 ⟨rfl, hv1⟩
          obtain rfl := hv1
          rw [decide_eq_true g0]
          go_wp2_with fail
          (with_reducible refine (l1In_any _ _ _ _).mono ?_)
          rintro e v1 ⟨rfl, hv1⟩
          obtain rfl := hv1
          rw [decide_eq_true g1]
          go_wp2_with fail
          (with_reducible refine (l1In_any _ _ _ _).mono ?_)
          rintro e v1 ⟨rfl, hv1⟩
          obtain rfl := hv1
          rw [decide_eq_true g2]
          go_wp2_with fail
          (with_reducible refine (l1In_any _ _ _ _).mono ?_)
          rintro e v1 ⟨rfl, hv1⟩
          obtain rfl := hv1
          rw [decide_eq_false g3]
          go_wp2_with fail
          go_ret
          exact ⟨ret_bool HN.out.symm, b3⟩
      · skip
        have HH : c.hdr = false := Cd.hdr_no (by omega)
        have HN : Hid (Cd.okAt true m.l k c = false) := by show _ = _; unfold Cd.okAt; rw [HH]; rfl
        clear HH
        go_enter Try.func30, Try.ntmps30
        go_upto_region 1 with fail
        rw [← hW1]
        clear hW1
        go_upto_region 2 with fail
        rw [← hW2]
        clear hW2 a0 a1 c0 c1 c2 c3 lb la
        obtain ⟨c0, c1, c2, c3⟩ := xc
        rw [← hCA] at c3
        clear hCA
        go_wp2_with fail
        (with_reducible refine (l1In_any _ _ _ _).mono ?_)
        rintro e v1 ⟨rfl, hv1⟩
        obtain rfl := hv1
        rw [decide_eq_true g0]
        go_wp2_with fail
        (with_reducible refine (l1In_any _ _ _ _).mono ?_)
        rintro e v1 ⟨rfl, hv1⟩
        obtain rfl := hv1
        rw [decide_eq_true g1]
        go_wp2_with fail
        (with_reducible refine (l1In_any _ _ _ _).mono ?_)
        rintro e v1 ⟨rfl, hv1⟩
        obtain rfl := hv1
        rw [decide_eq_false g2]
        go_wp2_with fail
        go_ret
        exact ⟨ret_bool HN.out.symm, b3⟩
    · skip
      have HH : c.hdr = false := Cd.hdr_no (by omega)
      have HN : Hid (Cd.okAt true m.l k c = false) := by show _ = _; unfold Cd.okAt; rw [HH]; rfl
      clear HH
      go_enter Try.func30, Try.ntmps30
      go_upto_region 1 with fail
      rw [← hW1]
      clear hW1
      go_upto_region 2 with fail
      rw [← hW2]
      clear hW2 a0 a1 c0 c1 c2 c3 lb la
      obtain ⟨c0, c1, c2, c3⟩ := xc
      rw [← hCA] at c3
      clear hCA
      go_wp2_with fail
      (with_reducible refine (l1In_any _ _ _ _).mono ?_)
      rintro e v1 ⟨rfl, hv1⟩
      obtain rfl := hv1
      rw [decide_eq_true g0]
      go_wp2_with fail
      (with_reducible refine (l1In_any _ _ _ _).mono ?_)
      rintro e v1 ⟨rfl, hv1⟩
      obtain rfl := hv1
      rw [decide_eq_false g1]
      go_wp2_with fail
      go_ret
      exact ⟨ret_bool HN.out.symm, b3⟩
  · skip
    have HH : c.hdr = false := Cd.hdr_no (by omega)
    have HN : Hid (Cd.okAt true m.l k c = false) := by show _ = _; unfold Cd.okAt; rw [HH]; rfl
    clear HH
    go_enter Try.func30, Try.ntmps30
    go_upto_region 1 with fail
    rw [← hW1]
    clear hW1
    go_upto_region 2 with fail
    rw [← hW2]
    clear hW2 a0 a1 c0 c1 c2 c3 lb la
    obtain ⟨c0, c1, c2, c3⟩ := xc
    rw [← hCA] at c3
    clear hCA
    go_wp2_with fail
    (with_reducible refine (l1In_any _ _ _ _).mono ?_)
    rintro e v1 ⟨rfl, hv1⟩
    obtain rfl := hv1
    rw [decide_eq_false g0]
    go_wp2_with fail
    go_ret
    exact ⟨ret_bool HN.out.symm, b3⟩
end Go.Proofs.Ytpigpncbjckbcaa
