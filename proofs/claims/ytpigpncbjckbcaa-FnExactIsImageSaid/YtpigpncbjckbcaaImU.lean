/-
  Counts of instructions; which of them names a code (written by gen/imu.py).
-/
import Derived.Test.YtpigpncbjckbcaaImK
import Derived.Deep.DeepCutAuto
namespace Go.Proofs.Ytpigpncbjckbcaa
open Go.RowKit

/-- An instruction that names a code. -/
def insO (o : Int) : Bool := o == 11 || (o == 18 || (o == 19 || o == 20))
def Nt.inside (x : Nt) : Bool := insO x.o
def nInc (ns : List Int) (x : Nt) : List Int := if x.inside then ns.set x.i.toNat (ns.getD x.i.toNat 0 + 1) else ns
def nCode (ns : List Int) (c : Cd) : List Int := c.l.foldl nInc ns
def cTot (l : List Cd) : Nat := (l.map fun c => c.l.length).sum
theorem cTot_drop {l : List Cd} {j : Nat} (h : j < l.length) : cTot (l.drop j) = l[j].l.length + cTot (l.drop (j + 1)) := by
  unfold cTot
  rw [List.drop_eq_getElem_cons h, List.map_cons, List.sum_cons]
theorem cTot_take {l : List Cd} {j : Nat} (h : j < l.length) : cTot (l.take (j + 1)) = cTot (l.take j) + l[j].l.length := by
  unfold cTot
  rw [List.take_succ_eq_append_getElem h, List.map_append, List.sum_append, List.map_cons, List.map_nil, List.sum_cons, List.sum_nil, Nat.add_zero]
theorem cTot_le (l : List Cd) (j : Nat) : cTot (l.take j) ≤ cTot l := by
  have h : l = l.take j ++ l.drop j := (List.take_append_drop j l).symm
  have : cTot l = cTot (l.take j) + cTot (l.drop j) := by
    conv => lhs; rw [h]
    unfold cTot
    rw [List.map_append, List.sum_append]
  omega
/-- The counts lie between nothing and t. -/
def nBd (ns : List Int) (t : Nat) : Prop := ∀ v ∈ ns, 0 ≤ v ∧ v ≤ (t : Int)
theorem nBd.getD {ns : List Int} {t : Nat} (h : nBd ns t) (i : Nat) : 0 ≤ ns.getD i 0 ∧ ns.getD i 0 ≤ (t : Int) := by
  by_cases hi : i < ns.length
  · rw [List.getD_eq_getElem?_getD, List.getElem?_eq_getElem hi]; exact h _ (List.getElem_mem hi)
  · rw [List.getD_eq_getElem?_getD, List.getElem?_eq_none (by omega)]; exact ⟨Int.le_refl _, by simp⟩
theorem nBd.more {ns : List Int} {t u : Nat} (h : nBd ns t) (hu : t ≤ u) : nBd ns u := fun v hv => ⟨(h v hv).1, by have := (h v hv).2; omega⟩
theorem nBd.set {ns : List Int} {t : Nat} (h : nBd ns t) (i : Nat) : nBd (ns.set i (ns.getD i 0 + 1)) (t + 1) := fun v hv => by
  rcases List.mem_or_eq_of_mem_set hv with hv | rfl
  · have := h v hv; omega
  · have := h.getD i; omega
theorem nInc_len (ns : List Int) (x : Nt) : (nInc ns x).length = ns.length := by unfold nInc; split <;> simp
theorem nInc_yes {ns : List Int} {x : Nt} (h : x.inside = true) : nInc ns x = ns.set x.i.toNat (ns.getD x.i.toNat 0 + 1) := by unfold nInc; rw [if_pos h]
theorem nInc_no {ns : List Int} {x : Nt} (h : x.inside = false) : nInc ns x = ns := by unfold nInc; rw [if_neg (by rw [h]; decide)]
theorem fold_drop {α β : Type} (f : β → α → β) {l : List α} {j : Nat} {b : β} (h : j < l.length) : (l.drop j).foldl f b = (l.drop (j + 1)).foldl f (f b l[j]) := by
  rw [List.drop_eq_getElem_cons h]; rfl

set_option maxRecDepth 100000 in
set_option maxHeartbeats 2000000 in
theorem countInstrs_any (m : Im) (B : Nat) (w : World) (hm : Im.E.In w B m) (hB : B ≤ w.heap.size) (hT : (cTot m.l : Int) ≤ 4611686018427387904) :
    Calls Try.prog 33 #[Im.val m] w fun e w' => e = .returned (.int .i64 (cTot m.l : Int)) ∧ Below w.heap.size w w' := by
  have hml := (Im.E_in hm).l
  have hcap := hml.cap
  obtain ⟨W1, hW1⟩ : ∃ W1, W1 = w.alloc (.cells #[.slice m.lA m.l.length m.lC, .int .i64 m.m] 31) := ⟨_, rfl⟩
  have b1 : Below w.heap.size w W1 := by rw [hW1]; exact (Below.refl _ _).alloc (Nat.le_refl _) _
  have z1 : w.heap.size < W1.heap.size := by rw [hW1]; simp
  have xa : Im.Box W1 w.heap.size m := by rw [hW1]; exact Im.Box.new _ _ _
  unfold Im.val
  obtain ⟨a0, a1⟩ := xa
  have HML := Lib.hid hml
  clear hml
  obtain ⟨MA, hMA⟩ : ∃ A, A = m.lA := ⟨_, rfl⟩
  have HL0 := HML.out
  rw [← hMA] at HL0 a0
  have HL := Lib.hid HL0
  clear HL0 HML
  go_enter Try.func33, Try.ntmps33
  go_upto_region 1 with fail
  rw [← hW1, ← hMA]
  clear hW1 hMA
  go_wp2_with fail
  clear a0 a1
  go_loopw [9, 3] (fun i s wr => ∃ j : Nat, j ≤ m.l.length ∧ i = .int .i64 j ∧ s = .int .i64 (cTot (m.l.take j) : Int) ∧ Below W1.heap.size W1 wr) (fun i _ _ => m.l.length - (intOf i).toNat)
  case atStart => exact ⟨0, Nat.zero_le _, rfl, rfl, Below.refl _ _⟩
  case round =>
    obtain ⟨j, hj, rfl, rfl, hbr⟩ := hrel
    have zr := hbr.size
    by_cases hlt : j < m.l.length
    · have lj : (j : Int) < (m.l.length : Int) := by omega
      have lj0 : (0 : Int) ≤ (j : Int) := by omega
      obtain ⟨cb, co, rfl, hblk, c0, c1, c2, c3, hci⟩ := Cd.at_ ((HL.out.below (b1.mono hB)).below (hbr.mono (by omega))) (i := j) (x := m.l[j]) (List.getElem?_eq_getElem hlt)
      have HT := Lib.hid (cTot_take hlt)
      have hle := cTot_le m.l (j + 1)
      have hcl := (Cd.E_in hci).l.cap
      clear hci
      obtain ⟨c, hc⟩ : ∃ c, c = m.l[j] := ⟨_, rfl⟩
      rw [← hc] at c0 c1 c2 c3 hcl HT
      clear hc
      have lb : cb < wr.heap.size := by omega
      have HLE : cTot (m.l.take j) + c.l.length ≤ cTot m.l := by have := HT.out; omega
      obtain ⟨t, ht⟩ : ∃ t, t = cTot (m.l.take j) := ⟨_, rfl⟩
      rw [← ht] at HLE HT ⊢
      clear ht
      obtain ⟨W2, hW2⟩ : ∃ W2, W2 = wr.alloc (.cells #[.int .i64 c.p, .int .i64 c.s, .int .i64 c.c, .slice c.lA c.l.length c.lC] 48) := ⟨_, rfl⟩
      have b2 : Below W1.heap.size W1 W2 := by rw [hW2]; exact hbr.alloc zr _
      have xc : Cd.Box W2 wr.heap.size c := by rw [hW2]; exact Cd.Box.new _ _ _
      obtain ⟨u, hu⟩ : ∃ u, u = cTot m.l := ⟨_, rfl⟩
      rw [← hu] at hT HLE
      clear hle hu
      go_upto_region 5 with fail
      rw [← hW2]
      clear hW2 c0 c1 c2 c3
      obtain ⟨c0, c1, c2, c3⟩ := xc
      have hsum := IntWalk.i64_in ((t : Int) + (c.l.length : Int)) (by omega)
      go_wp2_with fail
      refine ⟨⟨j + 1, by omega, by go_num, by rw [HT.out]; simp, b2⟩, by simp [intOf]; omega⟩
    · have hj' : j = m.l.length := by omega
      subst hj'
      go_wp2_with fail
      go_ret
      exact ⟨by rw [List.take_length]; rfl, b1.trans (hbr.mono (by omega))⟩

set_option maxRecDepth 100000 in
set_option maxHeartbeats 2000000 in
theorem l10Inside_any (o : Int) (w : World) : Calls Try.prog 48 #[.int .i64 o] w fun e w' => e = .returned (.bool (insO o)) ∧ w = w' := by
  by_cases h11 : o = 11
  · subst h11
    go_enter Try.func48, Try.ntmps48
    go_wp2_with fail
    go_ret
    exact ⟨rfl, rfl⟩
  · skip
    by_cases h18 : o = 18
    · subst h18
      go_enter Try.func48, Try.ntmps48
      go_wp2_with fail
      go_ret
      exact ⟨rfl, rfl⟩
    · skip
      by_cases h19 : o = 19
      · subst h19
        go_enter Try.func48, Try.ntmps48
        go_wp2_with fail
        go_ret
        exact ⟨rfl, rfl⟩
      · skip
        by_cases h20 : o = 20
        · subst h20
          go_enter Try.func48, Try.ntmps48
          go_wp2_with fail
          go_ret
          exact ⟨rfl, rfl⟩
        · skip
          have e11 : (o == 11) = false := by simpa using h11
          have e18 : (o == 18) = false := by simpa using h18
          have e19 : (o == 19) = false := by simpa using h19
          have e20 : (o == 20) = false := by simpa using h20
          go_enter Try.func48, Try.ntmps48
          go_wp2_with fail
          go_ret
          exact ⟨by unfold insO; rw [e11, e18, e19, e20]; rfl, rfl⟩

set_option maxRecDepth 100000 in
set_option maxHeartbeats 2000000 in
theorem namesCode_any (x : Nt) (w : World) : Calls Try.prog 54 #[Nt.val x] w fun e w' => e = .returned (.bool x.inside) ∧ Below w.heap.size w w' := by
  obtain ⟨W1, hW1⟩ : ∃ W1, W1 = w.alloc (.cells #[.int .i64 x.o, .int .i64 x.i, .int .i64 x.t.k, .int .i64 x.t.n, .string x.t.t, .slice x.t.A x.t.l.length x.t.c] 53) := ⟨_, rfl⟩
  have b1 : Below w.heap.size w W1 := by rw [hW1]; exact (Below.refl _ _).alloc (Nat.le_refl _) _
  have xb : Nt.Box W1 w.heap.size x := by rw [hW1]; exact Nt.Box.new _ _ _
  obtain ⟨d0, d1, d2, d3, d4, d5⟩ := xb
  unfold Nt.val Nt.inside
  go_enter Try.func54, Try.ntmps54
  go_upto_region 1 with fail
  rw [← hW1]
  clear hW1
  go_wp2_with fail
  all_goals go_ret
  all_goals exact ⟨by unfold insO; first | rfl | (simp [Bool.or_assoc] <;> done) | (simp <;> omega) | (simp_all <;> omega), b1⟩
end Go.Proofs.Ytpigpncbjckbcaa
