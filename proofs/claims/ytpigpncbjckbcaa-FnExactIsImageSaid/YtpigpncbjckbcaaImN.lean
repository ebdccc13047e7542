/-
  StackDepths: the model (written by gen/imk.py).
-/
import Derived.Test.YtpigpncbjckbcaaImK
import Derived.Test.YtpigpncbjckbcaaImJ
import Derived.Deep.DeepCutAuto
namespace Go.Proofs.Ytpigpncbjckbcaa
open Go.RowKit


set_option maxRecDepth 100000 in
set_option maxHeartbeats 4000000 in
theorem specStack_any (m : Im) (n : Int) (B : Nat) (w : World) (hm : Im.E.In w B m) (hB : B ≤ w.heap.size) (hbk : m.bulk ≤ 1500000) :
    Calls Try.prog 16 #[Im.val m, .int .i64 n] w (RetDep (m.stacks n) w) := by
  obtain ⟨W1, hW1⟩ : ∃ W1, W1 = w.alloc (.cells #[.slice m.lA m.l.length m.lC, .int .i64 m.m] 31) := ⟨_, rfl⟩
  have b1 : Below w.heap.size w W1 := by rw [hW1]; exact (Below.refl _ _).alloc (Nat.le_refl _) _
  have z1 : w.heap.size < W1.heap.size := by rw [hW1]; simp
  have xa : Im.Box W1 w.heap.size m := by rw [hW1]; exact Im.Box.new _ _ _
  have hcap := (Im.E_in hm).l.cap
  have HM := Lib.hid (hm.below (b1.mono hB))
  have XA := Lib.hid xa
  unfold Im.val
  obtain ⟨a0, a1⟩ := xa
  by_cases h0 : 0 ≤ n ∧ n ≤ (m.l.length : Int) - 1
  · obtain ⟨k, rfl⟩ : ∃ k : Nat, n = k := ⟨n.toNat, by omega⟩
    have hk : k < m.l.length := by omega
    have hsub := IntWalk.i64_in ((m.l.length : Int) - 1) (by omega)
    go_enter Try.func16, Try.ntmps16
    go_upto_region 1 with fail
    rw [← hW1]
    clear hW1
    go_wp2_with fail
    (with_reducible refine (l1In_any _ _ _ _).mono ?_)
    rintro e v1 ⟨rfl, hv1⟩
    obtain rfl := hv1
    rw [decide_eq_true h0]
    clear h0
    go_wp2_with fail
    clear a0 a1
    go_loopw [6] (fun i wr => ∃ j : Nat, j ≤ k + 1 ∧ i = .int .i64 j ∧ Hid (Cd.okTo true m.l j = true) ∧ Below W1.heap.size W1 wr) (fun i _ => k + 1 - (intOf i).toNat)
    case atStart => exact ⟨0, Nat.zero_le _, rfl, rfl, Below.refl _ _⟩
    case round =>
      obtain ⟨j, hj, rfl, HE, hbr⟩ := hrel
      have zr := hbr.size
      obtain ⟨a0, a1⟩ := XA.out.below hbr z1
      by_cases hlt : j ≤ k
      · have hjl : j < m.l.length := by omega
        have lj : (j : Int) ≤ (k : Int) := by omega
        have HAT := Lib.hid (Cd.at'_get hjl)
        have hc := l10Code_any m m.l[j] j B wr (List.getElem?_eq_getElem hjl) (HM.out.below (hbr.mono (by omega))) (by omega) hbk
        rw [← HAT.out] at hc
        obtain ⟨X, hX⟩ : ∃ X, X = Cd.okAt true m.l j (Cd.at' m.l (j : Int)) := ⟨_, rfl⟩
        rw [← hX] at hc
        have HX := Lib.hid hX
        clear hX
        unfold Im.val at hc
        go_wp2_with fail
        clear a0 a1
        (with_reducible refine hc.mono ?_)
        clear hc
        rintro e w2 ⟨rfl, hb2⟩
        have hb3 := hbr.trans (hb2.mono zr)
        cases X
        · have HN : Hid (m.stacks (k : Int) = none) := Im.stacks_bad (by rw [← Cd.okTo_sp]; exact Cd.okTo_no true m.l HX.out.symm (by omega))
          go_wp2_with fail
          go_ret2
          exact RetDep.no HN (b1.trans (hb3.mono (by omega)))
        · have HN : Hid (Cd.okTo true m.l (j + 1) = true) := by show _ = _; rw [Cd.okTo_succ, HE.out, ← HX.out]; rfl
          go_wp2_with fail
          refine ⟨⟨j + 1, by omega, by go_num, HN, hb3⟩, by simp [intOf]; omega⟩
      · have hj' : j = k + 1 := by omega
        subst hj'
        have hb2 := hbr
        obtain ⟨w2, hw2⟩ : ∃ W, W = wr := ⟨_, rfl⟩
        rw [← hw2] at hb2 a0 a1 hbr ⊢
        have zr2 : W1.heap.size ≤ w2.heap.size := by rw [hw2]; exact zr
        clear hw2
        have OK : Hid (Cd.okTo false m.l (k + 1) = true) := by show _ = _; rw [← Cd.okTo_sp]; exact HE.out
        have hb4 := b1.trans (hb2.mono (by omega))
        have hm2 := HM.out.below (hb2.mono (by omega))
        have HN : Hid (m.stacks (k : Int) = Cd.depths m.l m.l[k]) := Im.stacks_yes hk OK.out
        have hfit := Cd.fit_of OK.out hk
        rw [Cd.at'_get hk] at hfit
        have hck : m.l[k]? = some m.l[k] := List.getElem?_eq_getElem hk
        obtain ⟨c, hc⟩ : ∃ c, c = m.l[k] := ⟨_, rfl⟩
        rw [← hc] at HN hfit hck
        clear hc
        have hd := l10Depths_any m c k B w2 hck hfit hm2 (by omega)
        unfold Im.val at hd
        clear hm2 hfit hck
        go_wp2_with fail
        (with_reducible refine hd.mono ?_)
        clear hd a0 a1
        intro e w3 hh
        have HH := Lib.hid (hh.of HN hb4)
        obtain ⟨hb3, ⟨hR, rfl⟩ | ⟨ds, g, hR, rfl, hm3, hg⟩⟩ := hh
        · clear hR
          go_wp2_with fail
          go_ret2
          exact HH.out
        · clear hR hm3 hg
          go_wp2_with fail
          go_ret2
          exact HH.out
  · have HN : Hid (m.stacks n = none) := Im.stacks_out (by omega)
    have hsub := IntWalk.i64_in ((m.l.length : Int) - 1) (by omega)
    go_enter Try.func16, Try.ntmps16
    go_upto_region 1 with fail
    rw [← hW1]
    clear hW1
    go_wp2_with fail
    (with_reducible refine (l1In_any _ _ _ _).mono ?_)
    rintro e v1 ⟨rfl, hv1⟩
    obtain rfl := hv1
    rw [decide_eq_false h0]
    clear h0
    go_wp2_with fail
    go_ret2
    exact RetDep.no HN b1
end Go.Proofs.Ytpigpncbjckbcaa
