/-
  Atoms, and simple terms: the program's and the model's tests.
-/
import Derived.Test.YtnkdfphbglcnmaaGreatKvVal
import Derived.Test.YtnkdfphbglcnmaaGreatKcFits
import Derived.Test.YtnkdfphbglcnmaaGreatScSets
import Derived.Test.YtnkdfphbglcnmaaGreatNear
import Derived.Deep.RegionHeld3
namespace Go.Proofs.YtnkdfphbglcnmaaGreat
open Go.RowKit Go.Maps Go.WideMaps Go.ChangeMaps
def Ko.atomB (x : Ko) : Bool := x.k == 1 && ((x.d.l.length : Int) == 0)
def Ko.simpB (x : Ko) (g : List Int) : Bool := x.atomB || (x.k == 3 || (x.k == 2 && !g.contains x.n))
theorem D.er_len (d : D) : d.er.l.length = d.l.length := by cases d; simp [D.er, D.l, D.erL_length]
theorem Ko.atomB_er (x : Ko) : x.er.atomB = x.atomB := by simp only [Ko.atomB, Ko.er, D.er_len]
theorem Ko.simpB_er (x : Ko) (g : List Int) : x.er.simpB g = x.simpB g := by simp only [Ko.simpB, Ko.atomB_er]; rfl
theorem Tr.simp_er {d e : Tr Ko} (h : d.er Ko.er = e.er Ko.er) (g : List Int) : d.a.simpB g = e.a.simpB g := by
  have h1 : d.a.er = e.a.er := by cases d; cases e; simp only [Tr.er, Tr.mk.injEq] at h; exact h.1
  rw [← Ko.simpB_er d.a, h1, Ko.simpB_er]
set_option maxRecDepth 100000 in
set_option maxHeartbeats 1000000 in
theorem implAtom_any (d : Tr Ko) (w : World) : Calls Tryz.prog 174 #[Ko.val d] w fun e w' => e = .returned (.bool d.a.atomB) ∧ Below w.heap.size w w' := by
  obtain ⟨W, hW⟩ : ∃ W, W = w.alloc (.cells #[.int .i64 d.a.k, .int .i64 d.a.n, .slice d.a.sA d.a.s.length d.a.sC, .int .i64 d.a.d.k, .int .i64 d.a.d.n, .string d.a.d.t, .slice d.a.d.A d.a.d.l.length d.a.d.c, .slice d.A d.l.length d.c] 35) := ⟨_, rfl⟩
  have b1 : Below w.heap.size w W := by rw [hW]; exact (Below.refl _ _).alloc (Nat.le_refl _) _
  have X0 : Ko.Box W w.heap.size d := by rw [hW]; exact Ko.Box.new _ _ _
  obtain ⟨a0, a1, a2, a3, a4, a5, a6, a7⟩ := X0
  have HF : Hid (d.a.atomB = (d.a.k == 1 && ((d.a.d.l.length : Int) == 0))) := rfl
  unfold Ko.val
  cases q1 : (d.a.k == 1)
  · rw [q1] at HF
    go_enter Tryz.func174, Tryz.ntmps174
    go_upto_region 1 with fail
    rw [← hW]
    clear hW
    go_wp2_with fail
    go_ret
    exact ⟨ret_bool (by rw [HF.out]; rfl), b1⟩
  · rw [q1] at HF
    cases q2 : ((d.a.d.l.length : Int) == 0)
    all_goals
      rw [q2] at HF
      go_enter Tryz.func174, Tryz.ntmps174
      go_upto_region 1 with fail
      rw [← hW]
      clear hW
      go_wp2_with fail
      go_ret
      exact ⟨ret_bool (by rw [HF.out]; rfl), b1⟩
set_option maxRecDepth 100000 in
set_option maxHeartbeats 1000000 in
theorem specAtom_any (d : Tr Ko) (w : World) : Calls Tryz.prog 165 #[Ko.val d] w fun e w' => e = .returned (.bool d.a.atomB) ∧ Below w.heap.size w w' := by
  obtain ⟨W, hW⟩ : ∃ W, W = w.alloc (.cells #[.int .i64 d.a.k, .int .i64 d.a.n, .slice d.a.sA d.a.s.length d.a.sC, .int .i64 d.a.d.k, .int .i64 d.a.d.n, .string d.a.d.t, .slice d.a.d.A d.a.d.l.length d.a.d.c, .slice d.A d.l.length d.c] 35) := ⟨_, rfl⟩
  have b1 : Below w.heap.size w W := by rw [hW]; exact (Below.refl _ _).alloc (Nat.le_refl _) _
  have X0 : Ko.Box W w.heap.size d := by rw [hW]; exact Ko.Box.new _ _ _
  obtain ⟨a0, a1, a2, a3, a4, a5, a6, a7⟩ := X0
  have HF : Hid (d.a.atomB = (d.a.k == 1 && ((d.a.d.l.length : Int) == 0))) := rfl
  unfold Ko.val
  cases q1 : (d.a.k == 1)
  · rw [q1] at HF
    go_enter Tryz.func165, Tryz.ntmps165
    go_upto_region 1 with fail
    rw [← hW]
    clear hW
    go_wp2_with fail
    go_ret
    exact ⟨ret_bool (by rw [HF.out]; rfl), b1⟩
  · rw [q1] at HF
    cases q2 : ((d.a.d.l.length : Int) == 0)
    all_goals
      rw [q2] at HF
      go_enter Tryz.func165, Tryz.ntmps165
      go_upto_region 1 with fail
      rw [← hW]
      clear hW
      go_wp2_with fail
      go_ret
      exact ⟨ret_bool (by rw [HF.out]; rfl), b1⟩
theorem implAtom_u (d : Tr Ko) (w : World) : Calls Tryz.prog 174 #[.agg #[.int .i64 d.a.k, .int .i64 d.a.n, .slice d.a.sA d.a.s.length d.a.sC, .int .i64 d.a.d.k, .int .i64 d.a.d.n, .string d.a.d.t, .slice d.a.d.A d.a.d.l.length d.a.d.c, .slice d.A d.l.length d.c]] w fun e w' => e = .returned (.bool d.a.atomB) ∧ Below w.heap.size w w' := implAtom_any d w
theorem specAtom_u (d : Tr Ko) (w : World) : Calls Tryz.prog 165 #[.agg #[.int .i64 d.a.k, .int .i64 d.a.n, .slice d.a.sA d.a.s.length d.a.sC, .int .i64 d.a.d.k, .int .i64 d.a.d.n, .string d.a.d.t, .slice d.a.d.A d.a.d.l.length d.a.d.c, .slice d.A d.l.length d.c]] w fun e w' => e = .returned (.bool d.a.atomB) ∧ Below w.heap.size w w' := specAtom_any d w
set_option maxRecDepth 100000 in
set_option maxHeartbeats 1000000 in
theorem setOf_any (A : Option Addr) (c : Nat) (l : List Int) (B : Nat) (w : World) (hin : IIn w B A c l) (hB : B ≤ w.heap.size) (_hll : l.length ≤ 2000000) (hwf : ∀ i ∈ l, (Lit.int .i64 i).wf = true) :
    Calls Tryz.prog 87 #[.slice A l.length c] w fun e w' => ∃ M, e = .returned (.map (some M)) ∧ w.heap.size ≤ M ∧ IMap w' (.bool false) M l.length (fun k => .bool (l.contains k)) ∧ Below w.heap.size w w' := by
  have hcap := hin.cap
  obtain ⟨W1, hW1⟩ : ∃ W1, W1 = w.alloc (.map #[] 0) := ⟨_, rfl⟩
  have z1 : W1.heap.size = w.heap.size + 1 := by rw [hW1]; simp
  have b1 : Below w.heap.size w W1 := by rw [hW1]; exact (Below.refl _ _).alloc (Nat.le_refl _) _
  have M0 : IMap W1 (.bool false) w.heap.size 0 (fun _ => .bool false) := by rw [hW1]; exact IMap.new _ _
  have hmm := @run_makeMap Tryz.prog
  go_enter Tryz.func87, Tryz.ntmps87
  go_wp2_with fail
  rw [← hW1]
  clear hW1
  go_loopw [9] (fun i wr => ∃ j : Nat, j ≤ l.length ∧ i = .int .i64 j ∧ Chg [w.heap.size] W1 wr ∧ IMap wr (.bool false) w.heap.size j (fun k => .bool ((l.take j).contains k))) (fun i _ => l.length - (intOf i).toNat)
  case atStart => exact ⟨0, Nat.zero_le _, rfl, Chg.refl _ _, by simpa using M0⟩
  case round =>
    obtain ⟨j, hj, rfl, hch, hmj⟩ := hrel
    have hs2 := hch.size
    by_cases hlt : j < l.length
    · obtain ⟨b, o, rfl, hblk, c0⟩ := ((hin.below (b1.mono hB)).keep (w' := wr) fun k hk => hch.block k (by have := hin.blk_lt k hk; omega) (by have := hin.blk_lt k hk; simp; omega)).at_ hlt
      have g2 : (j : Int) < (l.length : Int) := by omega
      have hw := hwf l[j] (List.getElem_mem hlt)
      obtain ⟨w2, hrun, hm2, hg2⟩ := hmj.put (t := 130) Tryz.underlying130 (by unfold maxLen; omega) hw (.bool true)
      rw [has_upd, ← List.take_succ_eq_append_getElem hlt] at hm2
      have HM2 := Lib.hid hm2
      have HC2 := Lib.hid (hch.trans (chg_of_grown hg2 (F := [w.heap.size]) (by simp)))
      clear hm2 hg2 hmj hch hw
      go_wp2_with fail
      go_roundw
      case rel => exact ⟨j + 1, by omega, by go_num, HC2.out, HM2.out⟩
      case measure => simp [intOf]; omega
    · have hj' : j = l.length := by omega
      subst hj'
      rw [List.take_length] at hmj
      have HM := Lib.hid hmj
      have HB := Lib.hid (b1.trans (hch.below (B := w.heap.size) (fun k hk => by simp at hk; omega) (by omega)))
      clear hmj hch
      go_wp2_with fail
      go_ret
      exact ⟨w.heap.size, rfl, Nat.le_refl _, HM.out, HB.out⟩
set_option maxRecDepth 100000 in
set_option maxHeartbeats 2000000 in
theorem specSimp_any (d : Tr Ko) (g : List Int) (w : World) {B : Nat} {A : Option Addr} {c : Nat} (hin : IIn w B A c g) (hB : B ≤ w.heap.size) :
    Calls Tryz.prog 153 #[Ko.val d, .slice A g.length c] w fun e w' => e = .returned (.bool (d.a.simpB g)) ∧ Below w.heap.size w w' := by
  obtain ⟨W, hW⟩ : ∃ W, W = w.alloc (.cells #[.int .i64 d.a.k, .int .i64 d.a.n, .slice d.a.sA d.a.s.length d.a.sC, .int .i64 d.a.d.k, .int .i64 d.a.d.n, .string d.a.d.t, .slice d.a.d.A d.a.d.l.length d.a.d.c, .slice d.A d.l.length d.c] 35) := ⟨_, rfl⟩
  have zW : W.heap.size = w.heap.size + 1 := by rw [hW]; simp
  have zl : w.heap.size < W.heap.size := by omega
  have hcur : Below w.heap.size w W := by rw [hW]; exact (Below.refl _ _).alloc (Nat.le_refl _) _
  have X : Ko.Box W w.heap.size d := by rw [hW]; exact Ko.Box.new _ _ _
  have HF : Hid (d.a.simpB g = (d.a.atomB || (d.a.k == 3 || (d.a.k == 2 && !g.contains d.a.n)))) := rfl
  have hcap := hin.cap
  have hg := hin.below (hcur.mono hB)
  have zl0 := zl
  clear zW
  unfold Ko.val
  obtain ⟨a0, a1, a2, a3, a4, a5, a6, a7⟩ := id X
  cases qa : d.a.atomB
  · have HA := Lib.hid qa
    clear qa
    cases q3 : (d.a.k == 3)
    · rw [q3] at HF
      cases q2 : (d.a.k == 2)
      · rw [q2] at HF
        go_enter Tryz.func153, Tryz.ntmps153
        go_upto_region 1 with fail
        rw [← hW]
        clear hW
        go_wp2_with (go_at_call 165; with_reducible refine (specAtom_u d _).mono ?_; rintro e wn ⟨rfl, hbn⟩; rw [HA.out]; have X := X.below hbn zl; have hcur := hcur.trans (hbn.mono (Nat.le_of_lt zl)); have zl := Nat.lt_of_lt_of_le zl hbn.size; have hg := hg.below (hbn.mono (Nat.le_trans hB (Nat.le_of_lt zl0))); obtain ⟨a0, a1, a2, a3, a4, a5, a6, a7⟩ := id X)
        go_ret
        exact ⟨ret_bool (by rw [HF.out, HA.out]; rfl), hcur⟩
      · rw [q2] at HF
        cases qg : g.contains d.a.n
        all_goals
          rw [qg] at HF
          have HQ := Lib.hid qg
          clear qg
          go_enter Tryz.func153, Tryz.ntmps153
          go_upto_region 1 with fail
          rw [← hW]
          clear hW
          go_wp2_with (first | (go_at_call 165; with_reducible refine (specAtom_u d _).mono ?_; rintro e wn ⟨rfl, hbn⟩; rw [HA.out]; have X := X.below hbn zl; have hcur := hcur.trans (hbn.mono (Nat.le_of_lt zl)); have zl := Nat.lt_of_lt_of_le zl hbn.size; have hg := hg.below (hbn.mono (Nat.le_trans hB (Nat.le_of_lt zl0))); obtain ⟨a0, a1, a2, a3, a4, a5, a6, a7⟩ := id X) | (go_at_call 66; with_reducible refine (specHas_any A c g d.a.n _ _ hg).mono ?_; rintro e wn ⟨rfl, hw⟩; obtain rfl := hw.symm; rw [HQ.out]))
          go_ret
          exact ⟨ret_bool (by rw [HF.out, HA.out]; rfl), hcur⟩
    · rw [q3] at HF
      go_enter Tryz.func153, Tryz.ntmps153
      go_upto_region 1 with fail
      rw [← hW]
      clear hW
      go_wp2_with (go_at_call 165; with_reducible refine (specAtom_u d _).mono ?_; rintro e wn ⟨rfl, hbn⟩; rw [HA.out]; have X := X.below hbn zl; have hcur := hcur.trans (hbn.mono (Nat.le_of_lt zl)); have zl := Nat.lt_of_lt_of_le zl hbn.size; have hg := hg.below (hbn.mono (Nat.le_trans hB (Nat.le_of_lt zl0))); obtain ⟨a0, a1, a2, a3, a4, a5, a6, a7⟩ := id X)
      go_ret
      exact ⟨ret_bool (by rw [HF.out, HA.out]; rfl), hcur⟩
  · have HA := Lib.hid qa
    clear qa
    go_enter Tryz.func153, Tryz.ntmps153
    go_upto_region 1 with fail
    rw [← hW]
    clear hW
    go_wp2_with (go_at_call 165; with_reducible refine (specAtom_u d _).mono ?_; rintro e wn ⟨rfl, hbn⟩; rw [HA.out]; have X := X.below hbn zl; have hcur := hcur.trans (hbn.mono (Nat.le_of_lt zl)); have zl := Nat.lt_of_lt_of_le zl hbn.size; have hg := hg.below (hbn.mono (Nat.le_trans hB (Nat.le_of_lt zl0))); obtain ⟨a0, a1, a2, a3, a4, a5, a6, a7⟩ := id X)
    go_ret
    exact ⟨ret_bool (by rw [HF.out, HA.out]; rfl), hcur⟩
set_option maxRecDepth 100000 in
set_option maxHeartbeats 2000000 in
theorem implSimp_any (d : Tr Ko) (g : List Int) (w : World) {M n : Nat} (hm : IMap w (.bool false) M n (fun k => .bool (g.contains k))) (hwf : (Lit.int .i64 d.a.n).wf = true) :
    Calls Tryz.prog 270 #[Ko.val d, .map (some M)] w fun e w' => e = .returned (.bool (d.a.simpB g)) ∧ Below w.heap.size w w' := by
  obtain ⟨W, hW⟩ : ∃ W, W = w.alloc (.cells #[.int .i64 d.a.k, .int .i64 d.a.n, .slice d.a.sA d.a.s.length d.a.sC, .int .i64 d.a.d.k, .int .i64 d.a.d.n, .string d.a.d.t, .slice d.a.d.A d.a.d.l.length d.a.d.c, .slice d.A d.l.length d.c] 35) := ⟨_, rfl⟩
  have zW : W.heap.size = w.heap.size + 1 := by rw [hW]; simp
  have zl : w.heap.size < W.heap.size := by omega
  have hcur : Below w.heap.size w W := by rw [hW]; exact (Below.refl _ _).alloc (Nat.le_refl _) _
  have X : Ko.Box W w.heap.size d := by rw [hW]; exact Ko.Box.new _ _ _
  have HF : Hid (d.a.simpB g = (d.a.atomB || (d.a.k == 3 || (d.a.k == 2 && !g.contains d.a.n)))) := rfl
  have HM : Hid (∀ z : World, Below w.heap.size w z → (Instr.lookup 130 (.map (some M)) (.int .i64 d.a.n) false).run Tryz.prog z = .ok (.bool (g.contains d.a.n)) z) := fun z hz => (hm.keep (hz.block _ hm.lt)).look Tryz.underlying130 (zeroBool z) hwf
  clear zW
  unfold Ko.val
  obtain ⟨a0, a1, a2, a3, a4, a5, a6, a7⟩ := id X
  cases qa : d.a.atomB
  · have HA := Lib.hid qa
    clear qa
    cases q3 : (d.a.k == 3)
    · rw [q3] at HF
      cases q2 : (d.a.k == 2)
      · rw [q2] at HF
        go_enter Tryz.func270, Tryz.ntmps270
        go_upto_region 1 with fail
        rw [← hW]
        clear hW
        go_wp2_with (go_at_call 174; with_reducible refine (implAtom_u d _).mono ?_; rintro e wn ⟨rfl, hbn⟩; rw [HA.out]; have X := X.below hbn zl; have hcur := hcur.trans (hbn.mono (Nat.le_of_lt zl)); have zl := Nat.lt_of_lt_of_le zl hbn.size; have hlook := HM.out _ hcur; (try rw [HQ.out] at hlook); obtain ⟨a0, a1, a2, a3, a4, a5, a6, a7⟩ := id X)
        go_ret
        exact ⟨ret_bool (by rw [HF.out, HA.out]; rfl), hcur⟩
      · rw [q2] at HF
        cases qg : g.contains d.a.n
        all_goals
          rw [qg] at HF
          have HQ := Lib.hid qg
          clear qg
          go_enter Tryz.func270, Tryz.ntmps270
          go_upto_region 1 with fail
          rw [← hW]
          clear hW
          go_wp2_with (go_at_call 174; with_reducible refine (implAtom_u d _).mono ?_; rintro e wn ⟨rfl, hbn⟩; rw [HA.out]; have X := X.below hbn zl; have hcur := hcur.trans (hbn.mono (Nat.le_of_lt zl)); have zl := Nat.lt_of_lt_of_le zl hbn.size; have hlook := HM.out _ hcur; (try rw [HQ.out] at hlook); obtain ⟨a0, a1, a2, a3, a4, a5, a6, a7⟩ := id X)
          go_ret
          exact ⟨ret_bool (by rw [HF.out, HA.out]; rfl), hcur⟩
    · rw [q3] at HF
      go_enter Tryz.func270, Tryz.ntmps270
      go_upto_region 1 with fail
      rw [← hW]
      clear hW
      go_wp2_with (go_at_call 174; with_reducible refine (implAtom_u d _).mono ?_; rintro e wn ⟨rfl, hbn⟩; rw [HA.out]; have X := X.below hbn zl; have hcur := hcur.trans (hbn.mono (Nat.le_of_lt zl)); have zl := Nat.lt_of_lt_of_le zl hbn.size; have hlook := HM.out _ hcur; (try rw [HQ.out] at hlook); obtain ⟨a0, a1, a2, a3, a4, a5, a6, a7⟩ := id X)
      go_ret
      exact ⟨ret_bool (by rw [HF.out, HA.out]; rfl), hcur⟩
  · have HA := Lib.hid qa
    clear qa
    go_enter Tryz.func270, Tryz.ntmps270
    go_upto_region 1 with fail
    rw [← hW]
    clear hW
    go_wp2_with (go_at_call 174; with_reducible refine (implAtom_u d _).mono ?_; rintro e wn ⟨rfl, hbn⟩; rw [HA.out]; have X := X.below hbn zl; have hcur := hcur.trans (hbn.mono (Nat.le_of_lt zl)); have zl := Nat.lt_of_lt_of_le zl hbn.size; have hlook := HM.out _ hcur; (try rw [HQ.out] at hlook); obtain ⟨a0, a1, a2, a3, a4, a5, a6, a7⟩ := id X)
    go_ret
    exact ⟨ret_bool (by rw [HF.out, HA.out]; rfl), hcur⟩
end Go.Proofs.YtnkdfphbglcnmaaGreat
namespace Go.Proofs.YtnkdfphbglcnmaaGreat
open Go.RowKit Go.Maps Go.WideMaps Go.ChangeMaps
def Tr.simple (d : Tr Ko) (g : List Int) : Bool := d.validB && d.a.simpB g
set_option maxRecDepth 100000 in
set_option maxHeartbeats 2000000 in
theorem specIsS_any (d : Tr Ko) (A : Option Addr) (c : Nat) (g : List Int) (B : Nat) (w : World) (hin : Ko.E.In w B d) (hg : IIn w B A c g) (hB : B ≤ w.heap.size) (hbk : d.bulk Ko.bulk ≤ 1500000) :
    Calls Tryz.prog 65 #[Ko.val d, .slice A g.length c] w fun e w' => e = .returned (.bool (d.simple g)) ∧ Below w.heap.size w w' := by
  obtain ⟨W, hW⟩ : ∃ W, W = w.alloc (.cells #[.int .i64 d.a.k, .int .i64 d.a.n, .slice d.a.sA d.a.s.length d.a.sC, .int .i64 d.a.d.k, .int .i64 d.a.d.n, .string d.a.d.t, .slice d.a.d.A d.a.d.l.length d.a.d.c, .slice d.A d.l.length d.c] 35) := ⟨_, rfl⟩
  have zW : W.heap.size = w.heap.size + 1 := by rw [hW]; simp
  have zl : w.heap.size < W.heap.size := by omega
  have hcur : Below w.heap.size w W := by rw [hW]; exact (Below.refl _ _).alloc (Nat.le_refl _) _
  have X : Ko.Box W w.heap.size d := by rw [hW]; exact Ko.Box.new _ _ _
  have lB : B ≤ W.heap.size := by omega
  have hinW : ∀ z : World, Below W.heap.size W z → Ko.E.In z B d := fun z hz => Elem.In.below hin ((hcur.trans (hz.mono (by omega))).mono hB)
  have hgW : ∀ z : World, Below W.heap.size W z → IIn z B A c g := fun z hz => hg.below ((hcur.trans (hz.mono (by omega))).mono hB)
  have HF : Hid (d.simple g = (d.validB && d.a.simpB g)) := rfl
  have hval := specValid_any d B W (hinW W (Below.refl _ _)) lB hbk
  have HS := Lib.hid (fun (z : World) (hz : Below W.heap.size W z) => specSimp_any d g z (hgW z hz) (Nat.le_trans lB hz.size))
  obtain ⟨a0, a1, a2, a3, a4, a5, a6, a7⟩ := id X
  unfold Ko.val at hval HS ⊢
  clear hinW hgW zW
  cases qv : d.validB
  all_goals
    rw [qv] at HF hval
    have HV := Lib.hid qv
    clear qv
    go_enter Tryz.func65, Tryz.ntmps65
    go_upto_region 1 with fail
    rw [← hW]
    clear hW
    go_wp2_with (first | (go_at_call 64; with_reducible refine hval.mono ?_; rintro e w1 ⟨rfl, hb1⟩; have hz1 := hb1.size; obtain ⟨a0, a1, a2, a3, a4, a5, a6, a7⟩ := X.below hb1 zl) | (go_at_call 153; with_reducible refine (HS.out _ hb1).mono ?_; rintro e w2 ⟨rfl, hb2⟩; have hb1 := hb1.trans (hb2.mono hz1)))
    go_ret
    exact ⟨ret_bool (by rw [HF.out]; rfl), hcur.trans (hb1.mono (Nat.le_of_lt zl))⟩
set_option maxRecDepth 100000 in
set_option maxHeartbeats 4000000 in
theorem implIsS_any (d : Tr Ko) (A : Option Addr) (c : Nat) (g : List Int) (B : Nat) (w : World) (hin : Ko.E.In w B d) (hg : IIn w B A c g) (hB : B ≤ w.heap.size) (hbk : d.bulk Ko.bulk ≤ 1500000) (hgl : g.length ≤ 2000000) (hwf : ∀ i ∈ g, (Lit.int .i64 i).wf = true) :
    Calls Tryz.prog 156 #[Ko.val d, .slice A g.length c] w fun e w' => e = .returned (.bool (d.simple g)) ∧ Below w.heap.size w w' := by
  have hwfn := (Ko.E_in hin).1.wf.1
  obtain ⟨W, hW⟩ : ∃ W, W = w.alloc (.cells #[.int .i64 d.a.k, .int .i64 d.a.n, .slice d.a.sA d.a.s.length d.a.sC, .int .i64 d.a.d.k, .int .i64 d.a.d.n, .string d.a.d.t, .slice d.a.d.A d.a.d.l.length d.a.d.c, .slice d.A d.l.length d.c] 35) := ⟨_, rfl⟩
  have zW : W.heap.size = w.heap.size + 1 := by rw [hW]; simp
  have zl : w.heap.size < W.heap.size := by omega
  have hcur : Below w.heap.size w W := by rw [hW]; exact (Below.refl _ _).alloc (Nat.le_refl _) _
  have X : Ko.Box W w.heap.size d := by rw [hW]; exact Ko.Box.new _ _ _
  have lB : B ≤ W.heap.size := by omega
  have hinW : ∀ z : World, Below W.heap.size W z → Ko.E.In z B d := fun z hz => Elem.In.below hin ((hcur.trans (hz.mono (by omega))).mono hB)
  have hgW : ∀ z : World, Below W.heap.size W z → IIn z B A c g := fun z hz => hg.below ((hcur.trans (hz.mono (by omega))).mono hB)
  have HF : Hid (d.simple g = (d.validB && d.a.simpB g)) := rfl
  cases qv : d.validB
  · have HC : Hid (∀ z : Near W, Calls Tryz.prog 83 #[.agg #[.int .i64 d.a.k, .int .i64 d.a.n, .slice d.a.sA d.a.s.length d.a.sC, .int .i64 d.a.d.k, .int .i64 d.a.d.n, .string d.a.d.t, .slice d.a.d.A d.a.d.l.length d.a.d.c, .slice d.A d.l.length d.c]] z.at_ fun e w' => e = .returned (.bool false) ∧ Below z.at_.heap.size z.at_ w') := fun z => by
      have h := valid_any d B z.at_ (hinW _ z.below) (Nat.le_trans lB z.size) hbk
      rw [qv] at h; exact h
    rw [qv] at HF
    unfold Ko.val
    have d0 : ∀ z : Near W, z.at_.cell? ⟨w.heap.size, 0, none⟩ = some (.int .i64 d.a.k) := fun z => z.cell 0 X.c0 zl
    have d1 : ∀ z : Near W, z.at_.cell? ⟨w.heap.size, 1, none⟩ = some (.int .i64 d.a.n) := fun z => z.cell 1 X.c1 zl
    have d2 : ∀ z : Near W, z.at_.cell? ⟨w.heap.size, 2, none⟩ = some (.slice d.a.sA d.a.s.length d.a.sC) := fun z => z.cell 2 X.c2 zl
    have d3 : ∀ z : Near W, z.at_.cell? ⟨w.heap.size, 3, none⟩ = some (.int .i64 d.a.d.k) := fun z => z.cell 3 X.c3 zl
    have d4 : ∀ z : Near W, z.at_.cell? ⟨w.heap.size, 4, none⟩ = some (.int .i64 d.a.d.n) := fun z => z.cell 4 X.c4 zl
    have d5 : ∀ z : Near W, z.at_.cell? ⟨w.heap.size, 5, none⟩ = some (.string d.a.d.t) := fun z => z.cell 5 X.c5 zl
    have d6 : ∀ z : Near W, z.at_.cell? ⟨w.heap.size, 6, none⟩ = some (.slice d.a.d.A d.a.d.l.length d.a.d.c) := fun z => z.cell 6 X.c6 zl
    have d7 : ∀ z : Near W, z.at_.cell? ⟨w.heap.size, 7, none⟩ = some (.slice d.A d.l.length d.c) := fun z => z.cell 7 X.c7 zl
    clear qv hwfn
    go_enter Tryz.func156, Tryz.ntmps156
    go_upto_region 1 with fail
    rw [← hW]
    clear hW
    refine wp_region_near (by kernel_rfl) (by kernel_rfl) ?_
    repeat (go_big_quiet_step (first | (go_at_call 83; with_reducible exact Calls.near (HC.out _))))
    refine wpQuiet_nil ?_
    intro _ hw1
    obtain ⟨nx, hw2⟩ := hw1
    subst hw2
    go_wp2_with fail
    go_ret
    exact ⟨ret_bool (by rw [HF.out]; rfl), hcur.trans (nx.below.mono (by omega))⟩
  · rw [qv] at HF
    have QV := Lib.hid qv
    have HWF := Lib.hid hwf
    clear qv hwf
    obtain ⟨p0, p1, p2, p3, p4, p5, p6, p7⟩ := X
    have a0 := p0
    have a1 := p1
    have a2 := p2
    have a3 := p3
    have a4 := p4
    have a5 := p5
    have a6 := p6
    have a7 := p7
    unfold Ko.val
    obtain ⟨V, hV⟩ : ∃ V, V = d.a.simpB g := ⟨_, rfl⟩
    rw [← hV] at HF
    have HV := Lib.hid hV
    have tok0 : True := trivial
    have tok1 : True := trivial
    have tok2 : True := trivial
    clear hV
    go_enter Tryz.func156, Tryz.ntmps156
    go_upto_region 1 with fail
    rw [← hW]
    clear hW
    go_region_held3 (fun w' => w'.cell? ⟨w.heap.size, 0, none⟩ = some (.int .i64 d.a.k) ∧ w'.cell? ⟨w.heap.size, 1, none⟩ = some (.int .i64 d.a.n) ∧ w'.cell? ⟨w.heap.size, 2, none⟩ = some (.slice d.a.sA d.a.s.length d.a.sC) ∧ w'.cell? ⟨w.heap.size, 3, none⟩ = some (.int .i64 d.a.d.k) ∧ w'.cell? ⟨w.heap.size, 4, none⟩ = some (.int .i64 d.a.d.n) ∧ w'.cell? ⟨w.heap.size, 5, none⟩ = some (.string d.a.d.t) ∧ w'.cell? ⟨w.heap.size, 6, none⟩ = some (.slice d.a.d.A d.a.d.l.length d.a.d.c) ∧ w'.cell? ⟨w.heap.size, 7, none⟩ = some (.slice d.A d.l.length d.c)) (go_keep) (first
      | (go_simp; go_at_call 83; have _t := tok0; have hcon := valid_any d B W.drew (Elem.In.drew (hinW W (Below.refl _ _))) (show B ≤ W.heap.size from lB) hbk; rw [QV.out] at hcon; unfold Ko.val at hcon; (with_reducible refine hcon.mono ?_); clear hcon tok0; rintro e w1 ⟨rfl, hb1⟩; have hb1 : Below W.heap.size W w1 := below_undrew hb1; have y1 := hb1.size; have a0 := (hb1.cell (p := ⟨w.heap.size, 0, none⟩) zl).trans p0; have a1 := (hb1.cell (p := ⟨w.heap.size, 1, none⟩) zl).trans p1; have a2 := (hb1.cell (p := ⟨w.heap.size, 2, none⟩) zl).trans p2; have a3 := (hb1.cell (p := ⟨w.heap.size, 3, none⟩) zl).trans p3; have a4 := (hb1.cell (p := ⟨w.heap.size, 4, none⟩) zl).trans p4; have a5 := (hb1.cell (p := ⟨w.heap.size, 5, none⟩) zl).trans p5; have a6 := (hb1.cell (p := ⟨w.heap.size, 6, none⟩) zl).trans p6; have a7 := (hb1.cell (p := ⟨w.heap.size, 7, none⟩) zl).trans p7)
      | (go_simp; go_at_call 87; have _t := tok1; have hcon := setOf_any A c g B w1 (hgW w1 hb1) (Nat.le_trans lB y1) hgl HWF.out; (with_reducible refine hcon.mono ?_); clear hcon tok1; rintro e w2 ⟨M, rfl, hM, hm2, hk2⟩; have hb2 := hb1.trans (hk2.mono y1); have y2 := hb2.size; have HM2 := Lib.hid hm2; clear hm2; have a0 := (hb2.cell (p := ⟨w.heap.size, 0, none⟩) zl).trans p0; have a1 := (hb2.cell (p := ⟨w.heap.size, 1, none⟩) zl).trans p1; have a2 := (hb2.cell (p := ⟨w.heap.size, 2, none⟩) zl).trans p2; have a3 := (hb2.cell (p := ⟨w.heap.size, 3, none⟩) zl).trans p3; have a4 := (hb2.cell (p := ⟨w.heap.size, 4, none⟩) zl).trans p4; have a5 := (hb2.cell (p := ⟨w.heap.size, 5, none⟩) zl).trans p5; have a6 := (hb2.cell (p := ⟨w.heap.size, 6, none⟩) zl).trans p6; have a7 := (hb2.cell (p := ⟨w.heap.size, 7, none⟩) zl).trans p7)
      | (go_simp; go_at_call 270; have _t := tok2; have hcon := implSimp_any d g w2 HM2.out hwfn; rw [← HV.out] at hcon; unfold Ko.val at hcon; (with_reducible refine hcon.mono ?_); clear hcon tok2; rintro e w3 ⟨rfl, hk3⟩; have hb3 := hb2.trans (hk3.mono y2); have a0 := (hb3.cell (p := ⟨w.heap.size, 0, none⟩) zl).trans p0; have a1 := (hb3.cell (p := ⟨w.heap.size, 1, none⟩) zl).trans p1; have a2 := (hb3.cell (p := ⟨w.heap.size, 2, none⟩) zl).trans p2; have a3 := (hb3.cell (p := ⟨w.heap.size, 3, none⟩) zl).trans p3; have a4 := (hb3.cell (p := ⟨w.heap.size, 4, none⟩) zl).trans p4; have a5 := (hb3.cell (p := ⟨w.heap.size, 5, none⟩) zl).trans p5; have a6 := (hb3.cell (p := ⟨w.heap.size, 6, none⟩) zl).trans p6; have a7 := (hb3.cell (p := ⟨w.heap.size, 7, none⟩) zl).trans p7)
      | fail)
    all_goals go_wp2_with fail
    all_goals go_ret
    all_goals exact ⟨ret_bool (by rw [HF.out]; simp), hcur.trans (hb3.mono (Nat.le_of_lt zl))⟩
theorem Tr.simple_er {d d0 : Tr Ko} (h : d.er Ko.er = d0.er Ko.er) (g : List Int) : d.simple g = d0.simple g := by
  unfold Tr.simple
  rw [Tr.simp_er h g, Tr.valid_isCore, Tr.valid_isCore, Tr.isCore_er h, Tr.free_of_er d d0 h]
end Go.Proofs.YtnkdfphbglcnmaaGreat
