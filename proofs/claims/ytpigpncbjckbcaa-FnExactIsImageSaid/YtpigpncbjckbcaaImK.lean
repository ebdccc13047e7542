/-
  StackDepths: the math, the program (written by gen/imk.py).
-/
import Derived.Test.YtpigpncbjckbcaaImI
import Derived.Test.YtpigpncbjckbcaaImD
import Derived.Deep.RegionHeld3
import Derived.Deep.DeepCutAuto
namespace Go.Proofs.Ytpigpncbjckbcaa
open Go.RowKit

theorem wthn_call {sp : Bool} {cs : List Cd} {k : Nat} {c : Cd} {o i : Int} (h : wthn sp cs k c o i = true) (ho : o ≤ 20) (h2 : o = 11 ∨ 18 ≤ o) : i < (k : Int) := by
  unfold wthn at h
  have hh : o = 11 ∨ o = 18 ∨ o = 19 ∨ o = 20 := by omega
  rcases hh with rfl | rfl | rfl | rfl <;> simp at h <;> exact h.1
/-- A valid code is fit for the walk. -/
theorem Cd.fit_of {sp : Bool} {cs : List Cd} {k : Nat} (h : Cd.okTo sp cs (k + 1) = true) (hk : k < cs.length) : Cd.fit cs (Cd.at' cs (k : Int)) := by
  have h1 := Cd.okTo_le sp cs h (Nat.lt_succ_self k)
  unfold Cd.okAt at h1
  simp only [Bool.and_eq_true] at h1
  refine ⟨(Cd.hdr_out h1.1).2.2.2, fun x hx => ?_⟩
  have h2 := List.all_eq_true.1 h1.2 x hx
  unfold Nt.good at h2
  simp only [Bool.and_eq_true] at h2
  have ho := Nt.ok_out h2.1
  refine ⟨ho, fun h3 => ?_⟩
  have h4 := wthn_call h2.2 ho.1.2 h3
  have h5 := Cd.okTo_le sp cs h (show x.i.toNat < k + 1 by omega)
  unfold Cd.okAt at h5
  simp only [Bool.and_eq_true] at h5
  have h6 := (Cd.hdr_out h5.1).2.2.1
  rw [Int.toNat_of_nonneg ho.2.1] at h6
  exact ⟨by omega, h6.1, h6.2⟩
/-- What StackDepths answers. -/
def Im.stacks (m : Im) (n : Int) : Option (List Int) := if 0 ≤ n ∧ n < (m.l.length : Int) ∧ Cd.okTo false m.l (n.toNat + 1) = true then Cd.depths m.l (Cd.at' m.l n) else Option.none
theorem Im.stacks_yes {m : Im} {k : Nat} (hk : k < m.l.length) (h : Cd.okTo false m.l (k + 1) = true) : m.stacks (k : Int) = Cd.depths m.l m.l[k] := by
  unfold Im.stacks
  rw [if_pos ⟨by omega, by omega, by simpa using h⟩, Cd.at'_get hk]
theorem Im.stacks_bad {m : Im} {k : Nat} (h : Cd.okTo false m.l (k + 1) = false) : m.stacks (k : Int) = Option.none := by
  unfold Im.stacks
  rw [if_neg (by rintro ⟨_, _, h3⟩; rw [Int.toNat_natCast, h] at h3; exact absurd h3 (by decide))]
theorem Im.stacks_out {m : Im} {n : Int} (h : n < 0 ∨ (m.l.length : Int) ≤ n) : m.stacks n = Option.none := by
  unfold Im.stacks
  rw [if_neg (by omega)]
theorem RetDep.of {R Q : Option (List Int)} {w v w' : World} {e : Ending} (h : RetDep R v e w') (hq : Hid (Q = R)) (hb : Below w.heap.size w v) : RetDep Q w e w' := by
  have z := hb.size
  obtain ⟨h1, h2⟩ := h
  refine ⟨hb.trans (h1.mono z), ?_⟩
  rw [hq.out]
  rcases h2 with h2 | ⟨ds, g, a, b, c, d⟩
  · exact .inl h2
  · exact .inr ⟨ds, g, a, b, c, by omega⟩
theorem RetDep.tup {R : Option (List Int)} {w w' : World} {e : Ending} (h : RetDep R w e w') : ∃ s b : Value, e = .returned (.tuple #[s, b]) ∧ RetDep R w (.returned (.tuple #[s, b])) w' := by
  rcases h.2 with ⟨_, he⟩ | ⟨ds, g, _, he, _⟩
  · exact ⟨_, _, he, he ▸ h⟩
  · exact ⟨_, _, he, he ▸ h⟩

set_option maxRecDepth 100000 in
set_option maxHeartbeats 4000000 in
theorem implStack_any (m : Im) (n : Int) (B : Nat) (w : World) (hm : Im.E.In w B m) (hB : B ≤ w.heap.size) :
    Calls Try.prog 17 #[Im.val m, .int .i64 n] w (RetDep (m.stacks n) w) := by
  obtain ⟨W1, hW1⟩ : ∃ W1, W1 = w.alloc (.cells #[.slice m.lA m.l.length m.lC, .int .i64 m.m] 31) := ⟨_, rfl⟩
  have b1 : Below w.heap.size w W1 := by rw [hW1]; exact (Below.refl _ _).alloc (Nat.le_refl _) _
  have z1 : w.heap.size < W1.heap.size := by rw [hW1]; simp
  have xa : Im.Box W1 w.heap.size m := by rw [hW1]; exact Im.Box.new _ _ _
  have hcap := (Im.E_in hm).l.cap
  have HM := Lib.hid (hm.below (b1.mono hB))
  have XA := Lib.hid xa
  unfold Im.val
  obtain ⟨a0, a1⟩ := xa
  by_cases h0 : n < 0
  · have HN : Hid (m.stacks n = none) := Im.stacks_out (.inl h0)
    go_enter Try.func17, Try.ntmps17
    go_upto_region 1 with fail
    rw [← hW1]
    clear hW1
    go_wp2_with fail
    go_ret2
    exact RetDep.no HN b1
  · obtain ⟨k, rfl⟩ : ∃ k : Nat, n = k := ⟨n.toNat, by omega⟩
    by_cases h1 : (m.l.length : Int) ≤ k
    · have HN : Hid (m.stacks (k : Int) = none) := Im.stacks_out (.inr h1)
      go_enter Try.func17, Try.ntmps17
      go_upto_region 1 with fail
      rw [← hW1]
      clear hW1
      go_wp2_with fail
      go_ret2
      exact RetDep.no HN b1
    · have hk : k < m.l.length := by omega
      have lk : (k : Int) < (m.l.length : Int) := by omega
      have lk0 : (0 : Int) ≤ (k : Int) := by omega
      have hc := areCodes_any m k B W1 hk HM.out (by omega)
      obtain ⟨X, hX⟩ : ∃ X, X = Cd.okTo false m.l (k + 1) := ⟨_, rfl⟩
      rw [← hX] at hc
      have HX := Lib.hid hX
      clear hX
      unfold Im.val at hc
      go_enter Try.func17, Try.ntmps17
      go_upto_region 1 with fail
      rw [← hW1]
      clear hW1
      go_wp2_with fail
      clear a0 a1
      (with_reducible refine hc.mono ?_)
      clear hc
      rintro e w2 ⟨rfl, hb2⟩
      have z2 := hb2.size
      cases X
      · have HN : Hid (m.stacks (k : Int) = none) := Im.stacks_bad HX.out.symm
        go_wp2_with fail
        go_ret2
        exact RetDep.no HN (b1.trans (hb2.mono (by omega)))
      · have OK : Hid (Cd.okTo false m.l (k + 1) = true) := HX.out.symm
        have hb4 := b1.trans (hb2.mono (by omega))
        have hm2 := HM.out.below (hb2.mono (by omega))
        have HN : Hid (m.stacks (k : Int) = Cd.depths m.l m.l[k]) := Im.stacks_yes hk OK.out
        have hfit := Cd.fit_of OK.out hk
        rw [Cd.at'_get hk] at hfit
        have hck : m.l[k]? = some m.l[k] := List.getElem?_eq_getElem hk
        obtain ⟨c, hc⟩ : ∃ c, c = m.l[k] := ⟨_, rfl⟩
        rw [← hc] at HN hfit hck
        clear hc
        have hcs := (Im.E_in hm2).l
        obtain ⟨cb, co, eC, hblk, c0, c1, c2, c3, hci⟩ := Cd.at_ hcs (i := k) (x := c) hck
        have hd := depthsIn_any m c B w2.drew hfit (Elem.In.drew hm2) (Elem.In.drew hci) (show B ≤ w2.heap.size by omega)
        unfold Im.val Cd.val at hd
        obtain ⟨a0, a1⟩ := XA.out.below hb2 z1
        rw [eC] at a0 hd
        have lb : cb < w2.heap.size := by omega
        have lw : w.heap.size < w2.heap.size := by omega
        have HB4 := Lib.hid hb4.drew
        clear hci hcs hm2 hfit hck eC hb4
        go_wp2_with fail
        have tok0 : True := trivial
        go_region_held3 (fun w' => w'.cell? ⟨w.heap.size, 0, none⟩ = some (.slice (some ⟨cb, co, none⟩) m.l.length m.lC) ∧ w'.cell? ⟨w.heap.size, 1, none⟩ = some (.int .i64 m.m) ∧ w'.cell? ⟨cb, co + k * 4, none⟩ = some (.int .i64 c.p) ∧ w'.cell? ⟨cb, co + k * 4 + 1, none⟩ = some (.int .i64 c.s) ∧ w'.cell? ⟨cb, co + k * 4 + 2, none⟩ = some (.int .i64 c.c) ∧ w'.cell? ⟨cb, co + k * 4 + 3, none⟩ = some (.slice c.lA c.l.length c.lC)) (go_keep) (first | (go_at_call 35; have _t := tok0; (with_reducible refine hd.mono ?_); clear hd tok0; intro e w3 hh; have hh2 := hh.of HN HB4.out; obtain ⟨s, b, rfl, h3⟩ := hh2.tup; have HH := Lib.hid h3; have h1 : Below w2.heap.size w2 w3 := below_undrew hh.1; clear hh hh2 h3; have a0 := (h1.cell (p := ⟨w.heap.size, 0, none⟩) lw).trans a0; have a1 := (h1.cell (p := ⟨w.heap.size, 1, none⟩) lw).trans a1; have c0 := (h1.cell lb).trans c0; have c1 := (h1.cell lb).trans c1; have c2 := (h1.cell lb).trans c2; have c3 := (h1.cell lb).trans c3) | fail)
        go_wp2_with fail
        go_ret2
        exact HH.out
end Go.Proofs.Ytpigpncbjckbcaa
