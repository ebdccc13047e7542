/-
  Atoms, and simple terms: the program's and the model's tests.
-/
import Derived.Test.YtnkdfphbglcnmaaKvVal
import Derived.Test.YtnkdfphbglcnmaaKcFits
import Derived.Test.YtnkdfphbglcnmaaScSets
namespace Go.Proofs.Ytnkdfphbglcnmaa
open Go.RowKit Go.Maps Go.WideMaps Go.ChangeMaps

def Ko.atomB (x : Ko) : Bool := x.k == 1 && ((x.d.l.length : Int) == 0)
def Ko.simpB (x : Ko) (g : List Int) : Bool := x.atomB || (x.k == 3 || (x.k == 2 && !g.contains x.n))
theorem D.er_len (d : D) : d.er.l.length = d.l.length := by cases d; simp [D.er, D.l, D.erL_length]
theorem Ko.atomB_er (x : Ko) : x.er.atomB = x.atomB := by simp only [Ko.atomB, Ko.er, D.er_len]
theorem Ko.simpB_er (x : Ko) (g : List Int) : x.er.simpB g = x.simpB g := by simp only [Ko.simpB, Ko.atomB_er]; rfl
theorem Tr.simp_er {d e : Tr Ko} (h : d.er Ko.er = e.er Ko.er) (g : List Int) : d.a.simpB g = e.a.simpB g := by
  have h1 : d.a.er = e.a.er := by cases d; cases e; simp only [Tr.er, Tr.mk.injEq] at h; exact h.1
  rw [← Ko.simpB_er d.a, h1, Ko.simpB_er]

set_option maxRecDepth 100000 in
set_option maxHeartbeats 1000000 in
theorem implAtom_any (d : Tr Ko) (w : World) : Calls Try.prog 57 #[Ko.val d] w fun e w' => e = .returned (.bool d.a.atomB) ∧ Below w.heap.size w w' := by
  obtain ⟨W, hW⟩ : ∃ W, W = w.alloc (.cells #[.int .i64 d.a.k, .int .i64 d.a.n, .slice d.a.sA d.a.s.length d.a.sC, .int .i64 d.a.d.k, .int .i64 d.a.d.n, .string d.a.d.t, .slice d.a.d.A d.a.d.l.length d.a.d.c, .slice d.A d.l.length d.c] 36) := ⟨_, rfl⟩
  have b1 : Below w.heap.size w W := by rw [hW]; exact (Below.refl _ _).alloc (Nat.le_refl _) _
  have X0 : Ko.Box W w.heap.size d := by rw [hW]; exact Ko.Box.new _ _ _
  obtain ⟨a0, a1, a2, a3, a4, a5, a6, a7⟩ := X0
  have HF : Hid (d.a.atomB = (d.a.k == 1 && ((d.a.d.l.length : Int) == 0))) := rfl
  unfold Ko.val
  cases q1 : (d.a.k == 1)
  · rw [q1] at HF
    go_enter Try.func57, Try.ntmps57
    go_upto_region 1 with fail
    rw [← hW]
    clear hW
    go_wp2_with fail
    go_ret
    exact ⟨ret_bool (by rw [HF.out]; rfl), b1⟩
  · rw [q1] at HF
    cases q2 : ((d.a.d.l.length : Int) == 0)
    all_goals
      rw [q2] at HF
      go_enter Try.func57, Try.ntmps57
      go_upto_region 1 with fail
      rw [← hW]
      clear hW
      go_wp2_with fail
      go_ret
      exact ⟨ret_bool (by rw [HF.out]; rfl), b1⟩
set_option maxRecDepth 100000 in
set_option maxHeartbeats 1000000 in
theorem specAtom_any (d : Tr Ko) (w : World) : Calls Try.prog 52 #[Ko.val d] w fun e w' => e = .returned (.bool d.a.atomB) ∧ Below w.heap.size w w' := by
  obtain ⟨W, hW⟩ : ∃ W, W = w.alloc (.cells #[.int .i64 d.a.k, .int .i64 d.a.n, .slice d.a.sA d.a.s.length d.a.sC, .int .i64 d.a.d.k, .int .i64 d.a.d.n, .string d.a.d.t, .slice d.a.d.A d.a.d.l.length d.a.d.c, .slice d.A d.l.length d.c] 36) := ⟨_, rfl⟩
  have b1 : Below w.heap.size w W := by rw [hW]; exact (Below.refl _ _).alloc (Nat.le_refl _) _
  have X0 : Ko.Box W w.heap.size d := by rw [hW]; exact Ko.Box.new _ _ _
  obtain ⟨a0, a1, a2, a3, a4, a5, a6, a7⟩ := X0
  have HF : Hid (d.a.atomB = (d.a.k == 1 && ((d.a.d.l.length : Int) == 0))) := rfl
  unfold Ko.val
  cases q1 : (d.a.k == 1)
  · rw [q1] at HF
    go_enter Try.func52, Try.ntmps52
    go_upto_region 1 with fail
    rw [← hW]
    clear hW
    go_wp2_with fail
    go_ret
    exact ⟨ret_bool (by rw [HF.out]; rfl), b1⟩
  · rw [q1] at HF
    cases q2 : ((d.a.d.l.length : Int) == 0)
    all_goals
      rw [q2] at HF
      go_enter Try.func52, Try.ntmps52
      go_upto_region 1 with fail
      rw [← hW]
      clear hW
      go_wp2_with fail
      go_ret
      exact ⟨ret_bool (by rw [HF.out]; rfl), b1⟩
theorem implAtom_u (d : Tr Ko) (w : World) : Calls Try.prog 57 #[.agg #[.int .i64 d.a.k, .int .i64 d.a.n, .slice d.a.sA d.a.s.length d.a.sC, .int .i64 d.a.d.k, .int .i64 d.a.d.n, .string d.a.d.t, .slice d.a.d.A d.a.d.l.length d.a.d.c, .slice d.A d.l.length d.c]] w fun e w' => e = .returned (.bool d.a.atomB) ∧ Below w.heap.size w w' := implAtom_any d w
theorem specAtom_u (d : Tr Ko) (w : World) : Calls Try.prog 52 #[.agg #[.int .i64 d.a.k, .int .i64 d.a.n, .slice d.a.sA d.a.s.length d.a.sC, .int .i64 d.a.d.k, .int .i64 d.a.d.n, .string d.a.d.t, .slice d.a.d.A d.a.d.l.length d.a.d.c, .slice d.A d.l.length d.c]] w fun e w' => e = .returned (.bool d.a.atomB) ∧ Below w.heap.size w w' := specAtom_any d w

set_option maxRecDepth 100000 in
set_option maxHeartbeats 1000000 in
/-- A list as a set. -/
theorem setOf_any (A : Option Addr) (c : Nat) (l : List Int) (B : Nat) (w : World) (hin : IIn w B A c l) (hB : B ≤ w.heap.size) (_hll : l.length ≤ 2000000) (hwf : ∀ i ∈ l, (Lit.int .i64 i).wf = true) :
    Calls Try.prog 31 #[.slice A l.length c] w fun e w' => ∃ M, e = .returned (.map (some M)) ∧ w.heap.size ≤ M ∧ IMap w' (.bool false) M l.length (fun k => .bool (l.contains k)) ∧ Below w.heap.size w w' := by
  have hcap := hin.cap
  obtain ⟨W1, hW1⟩ : ∃ W1, W1 = w.alloc (.map #[] 0) := ⟨_, rfl⟩
  have z1 : W1.heap.size = w.heap.size + 1 := by rw [hW1]; simp
  have b1 : Below w.heap.size w W1 := by rw [hW1]; exact (Below.refl _ _).alloc (Nat.le_refl _) _
  have M0 : IMap W1 (.bool false) w.heap.size 0 (fun _ => .bool false) := by rw [hW1]; exact IMap.new _ _
  have hmm := @run_makeMap Try.prog
  go_enter Try.func31, Try.ntmps31
  go_wp2_with fail
  rw [← hW1]
  clear hW1
  go_loopw [9] (fun i wr => ∃ j : Nat, j ≤ l.length ∧ i = .int .i64 j ∧ Chg [w.heap.size] W1 wr ∧ IMap wr (.bool false) w.heap.size j (fun k => .bool ((l.take j).contains k))) (fun i _ => l.length - (intOf i).toNat)
  case atStart => exact ⟨0, Nat.zero_le _, rfl, Chg.refl _ _, by simpa using M0⟩
  case round =>
    obtain ⟨j, hj, rfl, hch, hmj⟩ := hrel
    have hs2 := hch.size
    by_cases hlt : j < l.length
    · obtain ⟨b, o, rfl, hblk, c0⟩ := ((hin.below (b1.mono hB)).keep (w' := wr) fun k hk => hch.block k (by have := hin.blk_lt k hk; omega) (by have := hin.blk_lt k hk; simp; omega)).at_ hlt
      have g2 : (j : Int) < (l.length : Int) := by omega
      have hw := hwf l[j] (List.getElem_mem hlt)
      obtain ⟨w2, hrun, hm2, hg2⟩ := hmj.put (t := 63) Try.underlying63 (by unfold maxLen; omega) hw (.bool true)
      rw [has_upd, ← List.take_succ_eq_append_getElem hlt] at hm2
      have HM2 := Lib.hid hm2
      have HC2 := Lib.hid (hch.trans (chg_of_grown hg2 (F := [w.heap.size]) (by simp)))
      clear hm2 hg2 hmj hch hw
      go_wp2_with fail
      go_roundw
      case rel => exact ⟨j + 1, by omega, by go_num, HC2.out, HM2.out⟩
      case measure => simp [intOf]; omega
    · have hj' : j = l.length := by omega
      subst hj'
      rw [List.take_length] at hmj
      have HM := Lib.hid hmj
      have HB := Lib.hid (b1.trans (hch.below (B := w.heap.size) (fun k hk => by simp at hk; omega) (by omega)))
      clear hmj hch
      go_wp2_with fail
      go_ret
      exact ⟨w.heap.size, rfl, Nat.le_refl _, HM.out, HB.out⟩

set_option maxRecDepth 100000 in
set_option maxHeartbeats 2000000 in
theorem specSimp_any (d : Tr Ko) (g : List Int) (w : World) {B : Nat} {A : Option Addr} {c : Nat} (hin : IIn w B A c g) (hB : B ≤ w.heap.size) :
    Calls Try.prog 27 #[Ko.val d, .slice A g.length c] w fun e w' => e = .returned (.bool (d.a.simpB g)) ∧ Below w.heap.size w w' := by
  obtain ⟨W, hW⟩ : ∃ W, W = w.alloc (.cells #[.int .i64 d.a.k, .int .i64 d.a.n, .slice d.a.sA d.a.s.length d.a.sC, .int .i64 d.a.d.k, .int .i64 d.a.d.n, .string d.a.d.t, .slice d.a.d.A d.a.d.l.length d.a.d.c, .slice d.A d.l.length d.c] 36) := ⟨_, rfl⟩
  have zW : W.heap.size = w.heap.size + 1 := by rw [hW]; simp
  have zl : w.heap.size < W.heap.size := by omega
  have hcur : Below w.heap.size w W := by rw [hW]; exact (Below.refl _ _).alloc (Nat.le_refl _) _
  have X : Ko.Box W w.heap.size d := by rw [hW]; exact Ko.Box.new _ _ _
  have HF : Hid (d.a.simpB g = (d.a.atomB || (d.a.k == 3 || (d.a.k == 2 && !g.contains d.a.n)))) := rfl
  have hcap := hin.cap
  have hg := hin.below (hcur.mono hB)
  have zl0 := zl
  clear zW
  unfold Ko.val
  obtain ⟨a0, a1, a2, a3, a4, a5, a6, a7⟩ := id X
  cases qa : d.a.atomB
  · have HA := Lib.hid qa
    clear qa
    cases q3 : (d.a.k == 3)
    · rw [q3] at HF
      cases q2 : (d.a.k == 2)
      · rw [q2] at HF
        go_enter Try.func27, Try.ntmps27
        go_upto_region 1 with fail
        rw [← hW]
        clear hW
        go_wp2_with (go_at_call 52; with_reducible refine (specAtom_u d _).mono ?_; rintro e wn ⟨rfl, hbn⟩; rw [HA.out]; have X := X.below hbn zl; have hcur := hcur.trans (hbn.mono (Nat.le_of_lt zl)); have zl := Nat.lt_of_lt_of_le zl hbn.size; have hg := hg.below (hbn.mono (Nat.le_trans hB (Nat.le_of_lt zl0))); obtain ⟨a0, a1, a2, a3, a4, a5, a6, a7⟩ := id X)
        go_ret
        exact ⟨ret_bool (by rw [HF.out, HA.out]; rfl), hcur⟩
      · rw [q2] at HF
        cases qg : g.contains d.a.n
        all_goals
          rw [qg] at HF
          have HQ := Lib.hid qg
          clear qg
          go_enter Try.func27, Try.ntmps27
          go_upto_region 1 with fail
          rw [← hW]
          clear hW
          go_wp2_with (first | (go_at_call 52; with_reducible refine (specAtom_u d _).mono ?_; rintro e wn ⟨rfl, hbn⟩; rw [HA.out]; have X := X.below hbn zl; have hcur := hcur.trans (hbn.mono (Nat.le_of_lt zl)); have zl := Nat.lt_of_lt_of_le zl hbn.size; have hg := hg.below (hbn.mono (Nat.le_trans hB (Nat.le_of_lt zl0))); obtain ⟨a0, a1, a2, a3, a4, a5, a6, a7⟩ := id X) | (go_at_call 53; with_reducible refine (specHas_any A c g d.a.n _ _ hg).mono ?_; rintro e wn ⟨rfl, hw⟩; obtain rfl := hw.symm; rw [HQ.out]))
          go_ret
          exact ⟨ret_bool (by rw [HF.out, HA.out]; rfl), hcur⟩
    · rw [q3] at HF
      go_enter Try.func27, Try.ntmps27
      go_upto_region 1 with fail
      rw [← hW]
      clear hW
      go_wp2_with (go_at_call 52; with_reducible refine (specAtom_u d _).mono ?_; rintro e wn ⟨rfl, hbn⟩; rw [HA.out]; have X := X.below hbn zl; have hcur := hcur.trans (hbn.mono (Nat.le_of_lt zl)); have zl := Nat.lt_of_lt_of_le zl hbn.size; have hg := hg.below (hbn.mono (Nat.le_trans hB (Nat.le_of_lt zl0))); obtain ⟨a0, a1, a2, a3, a4, a5, a6, a7⟩ := id X)
      go_ret
      exact ⟨ret_bool (by rw [HF.out, HA.out]; rfl), hcur⟩
  · have HA := Lib.hid qa
    clear qa
    go_enter Try.func27, Try.ntmps27
    go_upto_region 1 with fail
    rw [← hW]
    clear hW
    go_wp2_with (go_at_call 52; with_reducible refine (specAtom_u d _).mono ?_; rintro e wn ⟨rfl, hbn⟩; rw [HA.out]; have X := X.below hbn zl; have hcur := hcur.trans (hbn.mono (Nat.le_of_lt zl)); have zl := Nat.lt_of_lt_of_le zl hbn.size; have hg := hg.below (hbn.mono (Nat.le_trans hB (Nat.le_of_lt zl0))); obtain ⟨a0, a1, a2, a3, a4, a5, a6, a7⟩ := id X)
    go_ret
    exact ⟨ret_bool (by rw [HF.out, HA.out]; rfl), hcur⟩

set_option maxRecDepth 100000 in
set_option maxHeartbeats 2000000 in
theorem implSimp_any (d : Tr Ko) (g : List Int) (w : World) {M n : Nat} (hm : IMap w (.bool false) M n (fun k => .bool (g.contains k))) (hwf : (Lit.int .i64 d.a.n).wf = true) :
    Calls Try.prog 30 #[Ko.val d, .map (some M)] w fun e w' => e = .returned (.bool (d.a.simpB g)) ∧ Below w.heap.size w w' := by
  obtain ⟨W, hW⟩ : ∃ W, W = w.alloc (.cells #[.int .i64 d.a.k, .int .i64 d.a.n, .slice d.a.sA d.a.s.length d.a.sC, .int .i64 d.a.d.k, .int .i64 d.a.d.n, .string d.a.d.t, .slice d.a.d.A d.a.d.l.length d.a.d.c, .slice d.A d.l.length d.c] 36) := ⟨_, rfl⟩
  have zW : W.heap.size = w.heap.size + 1 := by rw [hW]; simp
  have zl : w.heap.size < W.heap.size := by omega
  have hcur : Below w.heap.size w W := by rw [hW]; exact (Below.refl _ _).alloc (Nat.le_refl _) _
  have X : Ko.Box W w.heap.size d := by rw [hW]; exact Ko.Box.new _ _ _
  have HF : Hid (d.a.simpB g = (d.a.atomB || (d.a.k == 3 || (d.a.k == 2 && !g.contains d.a.n)))) := rfl
  have HM : Hid (∀ z : World, Below w.heap.size w z → (Instr.lookup 63 (.map (some M)) (.int .i64 d.a.n) false).run Try.prog z = .ok (.bool (g.contains d.a.n)) z) := fun z hz => (hm.keep (hz.block _ hm.lt)).look Try.underlying63 (zeroBool z) hwf
  clear zW
  unfold Ko.val
  obtain ⟨a0, a1, a2, a3, a4, a5, a6, a7⟩ := id X
  cases qa : d.a.atomB
  · have HA := Lib.hid qa
    clear qa
    cases q3 : (d.a.k == 3)
    · rw [q3] at HF
      cases q2 : (d.a.k == 2)
      · rw [q2] at HF
        go_enter Try.func30, Try.ntmps30
        go_upto_region 1 with fail
        rw [← hW]
        clear hW
        go_wp2_with (go_at_call 57; with_reducible refine (implAtom_u d _).mono ?_; rintro e wn ⟨rfl, hbn⟩; rw [HA.out]; have X := X.below hbn zl; have hcur := hcur.trans (hbn.mono (Nat.le_of_lt zl)); have zl := Nat.lt_of_lt_of_le zl hbn.size; have hlook := HM.out _ hcur; (try rw [HQ.out] at hlook); obtain ⟨a0, a1, a2, a3, a4, a5, a6, a7⟩ := id X)
        go_ret
        exact ⟨ret_bool (by rw [HF.out, HA.out]; rfl), hcur⟩
      · rw [q2] at HF
        cases qg : g.contains d.a.n
        all_goals
          rw [qg] at HF
          have HQ := Lib.hid qg
          clear qg
          go_enter Try.func30, Try.ntmps30
          go_upto_region 1 with fail
          rw [← hW]
          clear hW
          go_wp2_with (go_at_call 57; with_reducible refine (implAtom_u d _).mono ?_; rintro e wn ⟨rfl, hbn⟩; rw [HA.out]; have X := X.below hbn zl; have hcur := hcur.trans (hbn.mono (Nat.le_of_lt zl)); have zl := Nat.lt_of_lt_of_le zl hbn.size; have hlook := HM.out _ hcur; (try rw [HQ.out] at hlook); obtain ⟨a0, a1, a2, a3, a4, a5, a6, a7⟩ := id X)
          go_ret
          exact ⟨ret_bool (by rw [HF.out, HA.out]; rfl), hcur⟩
    · rw [q3] at HF
      go_enter Try.func30, Try.ntmps30
      go_upto_region 1 with fail
      rw [← hW]
      clear hW
      go_wp2_with (go_at_call 57; with_reducible refine (implAtom_u d _).mono ?_; rintro e wn ⟨rfl, hbn⟩; rw [HA.out]; have X := X.below hbn zl; have hcur := hcur.trans (hbn.mono (Nat.le_of_lt zl)); have zl := Nat.lt_of_lt_of_le zl hbn.size; have hlook := HM.out _ hcur; (try rw [HQ.out] at hlook); obtain ⟨a0, a1, a2, a3, a4, a5, a6, a7⟩ := id X)
      go_ret
      exact ⟨ret_bool (by rw [HF.out, HA.out]; rfl), hcur⟩
  · have HA := Lib.hid qa
    clear qa
    go_enter Try.func30, Try.ntmps30
    go_upto_region 1 with fail
    rw [← hW]
    clear hW
    go_wp2_with (go_at_call 57; with_reducible refine (implAtom_u d _).mono ?_; rintro e wn ⟨rfl, hbn⟩; rw [HA.out]; have X := X.below hbn zl; have hcur := hcur.trans (hbn.mono (Nat.le_of_lt zl)); have zl := Nat.lt_of_lt_of_le zl hbn.size; have hlook := HM.out _ hcur; (try rw [HQ.out] at hlook); obtain ⟨a0, a1, a2, a3, a4, a5, a6, a7⟩ := id X)
    go_ret
    exact ⟨ret_bool (by rw [HF.out, HA.out]; rfl), hcur⟩
end Go.Proofs.Ytnkdfphbglcnmaa
