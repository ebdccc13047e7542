/-
  The program's areVariables (written by gen/pva.py).
-/
import Derived.Test.YtnldlbglgalbaabGreatTfViews
import Derived.Deep.DeepCutAuto
namespace Go.Proofs.YtnldlbglgalbaabGreat
open Go.RowKit
namespace Ka
/-- The index of the first capture of d's name, or -1. -/
def ixL (l : List (Tr Ka)) (d : S) : Int := if d.k = 1 ∧ d.isDots = false then fidx (fun x : Tr Ka => S.eqB x.a.N d) l else -1
def areVF (l : List (Tr Ka)) : Nat → List (Tr Ka) → Bool
  | _, [] => true
  | k, x :: r => (decide (x.a.dep ≤ 3) && decide (ixL l x.a.N = k)) && areVF l (k + 1) r
def areV (l : List (Tr Ka)) : Bool := areVF l 0 l
theorem areVF_step {l : List (Tr Ka)} {j : Nat} (h : j < l.length) : areVF l j (l.drop j) = ((decide (l[j].a.dep ≤ 3) && decide (ixL l l[j].a.N = j)) && areVF l (j + 1) (l.drop (j + 1))) := by
  rw [List.drop_eq_getElem_cons h, areVF]
theorem fidx_map {α β : Type} (f : α → β) (p : β → Bool) (l : List α) : fidx p (l.map f) = fidx (fun a => p (f a)) l := by
  unfold fidx
  rw [List.findIdx?_map]
  rfl
theorem ixL_vw {vs : List Vw} {l : List (Tr Ka)} (hm : vs.map (·.x) = l) (d : S) : Vw.ix vs d = ixL l d := by
  subst hm
  unfold Vw.ix ixL
  rw [fidx_map]
  rfl
end Ka

set_option maxRecDepth 100000 in
set_option maxHeartbeats 4000000 in
theorem areVars_any (A : Option Addr) (c : Nat) (l : List (Tr Ka)) (B : Nat) (w : World) (hin : Ka.E.LIn w B A c l) (hB : B ≤ w.heap.size) (hll : l.length ≤ 2000000) :
    Calls Tryz.prog 82 #[.slice A l.length c] w fun e w' => e = .returned (.bool (Ka.areV l)) ∧ Below w.heap.size w w' := by
  have hcap := hin.cap
  obtain ⟨OK, hOK⟩ : ∃ z, z = Ka.areV l := ⟨_, rfl⟩
  rw [← hOK]
  have HK := Lib.hid hOK
  clear hOK
  go_enter Tryz.func82, Tryz.ntmps82
  go_wp2_with fail
  (with_reducible refine (ptrs_any A c l B _ hin hB hll).mono ?_)
  rintro e w1 ⟨Ap, cp, vs, rfl, hvm, hvin, hb1⟩
  have z1 := hb1.size
  have HVM := Lib.hid hvm
  have hvl : vs.length = l.length := by have := congrArg List.length hvm; simpa using this
  have hvl2 : vs.length ≤ 2000000 := by omega
  clear hvm hvl
  go_wp2_with fail
  (with_reducible refine (viewOf_any Ap cp vs w1.heap.size w1 hvin (Nat.le_refl _) hvl2).mono ?_)
  rintro e w2 ⟨M, nn, V, DD, rfl, hG, hb2⟩
  have z2 := hb2.size
  have b2 := hb1.trans (hb2.mono z1)
  obtain ⟨W3, hW3⟩ : ∃ W3, W3 = w2.alloc (.cells #[.slice Ap vs.length cp, .map (some M)] 134) := ⟨_, rfl⟩
  have b3 : Below w2.heap.size w2 W3 := by rw [hW3]; exact (Below.refl _ _).alloc (Nat.le_refl _) _
  have z3 : W3.heap.size = w2.heap.size + 1 := by rw [hW3]; simp
  have X3 : D.Blk W3 w2.heap.size 134 #[.slice Ap vs.length cp, .map (some M)] := by rw [hW3]; exact D.Blk.new _ _ _
  have bw3 := b2.trans (b3.mono (by omega))
  go_upto_region 2 with fail
  rw [← hW3]
  clear hW3
  go_wp2_with fail
  go_loopw [11] (fun i wr => ∃ j : Nat, j ≤ l.length ∧ i = .int .i64 j ∧ Hid (Ka.areVF l j (l.drop j) = OK) ∧ Below W3.heap.size W3 wr) (fun i _ => l.length - (intOf i).toNat)
  case atStart => exact ⟨0, Nat.zero_le _, rfl, HK.out.symm, Below.refl _ _⟩
  case round =>
    obtain ⟨j, hj, rfl, HN, hb⟩ := hrel
    have hs2 := hb.size
    have bw := bw3.trans (hb.mono (by omega))
    by_cases hlt : j < l.length
    · obtain ⟨b, o, hA, hblk, c0, c1, c2, c3, c4, c5, c6, c7, c8, c9, c10, c11, hix⟩ := Ka.at_ (hin.below (bw.mono hB)) (i := j) (x := l[j]) (List.getElem?_eq_getElem hlt)
      have g1 : (j : Int) < (l.length : Int) := by omega
      have HS : Hid (OK = ((decide (l[j].a.dep ≤ 3) && decide (Ka.ixL l l[j].a.N = j)) && Ka.areVF l (j + 1) (l.drop (j + 1)))) := by show _ = _; rw [← HN.out, Ka.areVF_step hlt]
      rw [hA]
      clear hA
      obtain ⟨W4, hW4⟩ : ∃ W4, W4 = wr.alloc (.cells #[.int .i64 l[j].a.N.k, .int .i64 l[j].a.N.n, .string l[j].a.N.t, .slice l[j].a.N.sa l[j].a.N.s.length l[j].a.N.sc, .slice l[j].a.N.A l[j].a.N.l.length l[j].a.N.c, .int .i64 l[j].a.dep, .int .i64 l[j].a.F.k, .int .i64 l[j].a.F.n, .string l[j].a.F.t, .slice l[j].a.F.sa l[j].a.F.s.length l[j].a.F.sc, .slice l[j].a.F.A l[j].a.F.l.length l[j].a.F.c, .slice l[j].A l[j].l.length l[j].c] 82) := ⟨_, rfl⟩
      have bA : Below wr.heap.size wr W4 := by rw [hW4]; exact (Below.refl _ _).alloc (Nat.le_refl _) _
      have z4 : W4.heap.size = wr.heap.size + 1 := by rw [hW4]; simp
      have Y4 : Ka.Box W4 wr.heap.size l[j] := by rw [hW4]; exact Ka.Box.new _ _ _
      have hb4 := hb.trans (bA.mono hs2)
      have hN := (Ka.E_in (hix.below (bA.mono (by omega)))).1.N
      go_upto_region 5 with fail
      rw [← hW4]
      clear hW4 c0 c1 c2 c3 c4 c5 c6 c7 c8 c9 c10 c11
      obtain ⟨y0, y1, y2, y3, y4, y5, y6, y7, y8, y9, y10, y11⟩ := Y4
      have X4 := X3.below hb4 (by omega)
      have x0 := X4.cell 0
      have x1 := X4.cell 1
      by_cases hd : l[j].a.dep ≤ 3
      · have g2 : ¬ (3 : Int) < l[j].a.dep := by omega
        have HS2 : Hid (OK = (decide (Ka.ixL l l[j].a.N = j) && Ka.areVF l (j + 1) (l.drop (j + 1)))) := by show _ = _; rw [HS.out, decide_eq_true hd]; rfl
        have hcv := indexOf_any Ap cp vs M nn V DD l[j].a.N W4.heap.size W4 ((hvin.below hb2).below ((b3.trans (hb4.mono (by omega))).mono z2) |>.more (by omega)) (hN.more (by omega)) (Nat.le_refl _) hvl2 (hG.below (b3.trans (hb4.mono (by omega))))
        rw [Ka.ixL_vw HVM.out] at hcv
        obtain ⟨IX, hIX⟩ : ∃ z, z = Ka.ixL l l[j].a.N := ⟨_, rfl⟩
        rw [← hIX] at hcv HS2
        clear hIX hd
        unfold S.val at hcv
        go_wp2_with fail
        clear y0 y1 y2 y3 y4 y5 y6 y7 y8 y9 y10 y11
        (with_reducible refine hcv.mono ?_)
        clear hcv
        rintro e w5 ⟨rfl, hb5⟩
        have hb6 := hb4.trans (hb5.mono (by omega))
        by_cases hq : IX = (j : Int)
        · have HN2 : Hid (Ka.areVF l (j + 1) (l.drop (j + 1)) = OK) := by show _ = _; rw [HS2.out, decide_eq_true hq]; rfl
          have g3 : (IX != (j : Int)) = false := by simp [hq]
          clear hq
          go_wp2_with fail
          exact ⟨⟨j + 1, by omega, by go_num, HN2, hb6⟩, by simp [intOf]; omega⟩
        · have HF : Hid (OK = false) := by show _ = _; rw [HS2.out, decide_eq_false hq]; rfl
          have g3 : (IX != (j : Int)) = true := by simpa using hq
          clear hq
          go_wp2_with fail
          go_ret
          exact ⟨ret_bool HF.out.symm, bw3.trans (hb6.mono (by omega))⟩
      · have g2 : (3 : Int) < l[j].a.dep := by omega
        have HF : Hid (OK = false) := by show _ = _; rw [HS.out, decide_eq_false hd]; rfl
        clear hd
        go_wp2_with fail
        go_ret
        exact ⟨ret_bool HF.out.symm, bw3.trans (hb4.mono (by omega))⟩
    · have hj' : j = l.length := by omega
      subst hj'
      have HF : Hid (OK = true) := by show _ = _; rw [← HN.out, List.drop_length]; rfl
      go_wp2_with fail
      go_ret
      exact ⟨ret_bool HF.out.symm, bw⟩
end Go.Proofs.YtnldlbglgalbaabGreat
