/-
  The program's tests of a term's variables (written by gen/kobinds.py).
-/
import Derived.Test.YtpigpncbjckbcaaGreatKcIsc
import Derived.Test.YtpigpncbjckbcaaGreatKoFree
import Derived.Test.YtpigpncbjckbcaaGreatKcOwns
import Derived.Test.YtpigpncbjckbcaaGreatKcKinds
import Derived.Test.YtpigpncbjckbcaaGreatKcShape
namespace Go.Proofs.YtpigpncbjckbcaaGreat
open Go.RowKit Go.Maps Go.WideMaps Go.ChangeMaps
set_option maxRecDepth 100000 in
set_option maxHeartbeats 1000000 in
theorem addVars_any (M n : Nat) (K : List Int) (A : Option Addr) (c : Nat) (l : List Int) (B : Nat) (w : World) (hm : IMap w (.bool false) M n (fun k => .bool (K.contains k))) (hB : B ≤ w.heap.size) (hin : IIn w B A c l) (hoff : ∀ k ∈ iblk A l, k ≠ M) (hn : n + l.length ≤ 10000000) :
    Calls Tryz.prog 225 #[.map (some M), .slice A l.length c] w fun e w' => e = .returned (.bool (uniqK K l)) ∧ Chg [M] w w' ∧ (uniqK K l = true → IMap w' (.bool false) M (n + l.length) (fun k => .bool ((K ++ l).contains k))) := by
  have hcap := hin.cap
  go_enter Tryz.func225, Tryz.ntmps225
  go_wp2_with fail
  go_loopw [9] (fun i wr => ∃ j : Nat, j ≤ l.length ∧ i = .int .i64 j ∧ Hid (uniqK K (l.take j) = true) ∧ Chg [M] w wr ∧ IMap wr (.bool false) M (n + j) (fun k => .bool ((K ++ l.take j).contains k))) (fun i _ => l.length - (intOf i).toNat)
  case atStart => exact ⟨0, Nat.zero_le _, rfl, rfl, Chg.refl _ _, by simpa using hm⟩
  case round =>
    obtain ⟨j, hj, rfl, HN, hch, hmj⟩ := hrel
    have hs2 := hch.size
    by_cases hlt : j < l.length
    · obtain ⟨b, o, rfl, hblk, c0⟩ := (hin.keep (w' := wr) fun k hk => hch.block k (by have := hin.blk_lt k hk; omega) (by simpa using hoff k hk)).at_ hlt
      have g2 : (j : Int) < (l.length : Int) := by omega
      cases hr : inR l[j]
      · have HF := Lib.hid (uniqK_no K l j hlt (by rw [hr]; rfl))
        have hv := implVarR_any l[j] wr
        rw [hr] at hv
        have HM := Lib.hid hmj
        clear hr hmj
        go_wp2_with (go_at_call 104; with_reducible refine hv.mono ?_; rintro e wn ⟨rfl, hwn⟩; obtain rfl := hwn.symm)
        go_ret
        exact ⟨ret_bool HF.out.symm, hch, fun h => by rw [HF.out] at h; cases h⟩
      · have hv := implVarR_any l[j] wr
        rw [hr] at hv
        have hwf := inR_wf hr
        have hlook := hmj.look (t := 214) Tryz.underlying214 (zeroBool wr) hwf
        cases hq : (K ++ l.take j).contains l[j]
        · have HR := Lib.hid hr
          have HQ := Lib.hid hq
          rw [hq] at hlook
          obtain ⟨w2, hrun, hm2, hg2⟩ := hmj.put (t := 214) Tryz.underlying214 (by unfold maxLen; omega) hwf (.bool true)
          rw [has_upd, List.append_assoc, ← List.take_succ_eq_append_getElem hlt] at hm2
          have HM2 := Lib.hid hm2
          have HC2 := Lib.hid (hch.trans (chg_of_grown hg2 (F := [M]) (by simp)))
          clear hr hq hm2 hg2 hmj hch hwf
          go_wp2_with (go_at_call 104; with_reducible refine hv.mono ?_; rintro e wn ⟨rfl, hwn⟩; obtain rfl := hwn.symm)
          go_roundw
          case rel => exact ⟨j + 1, by omega, by go_num, by (show _ = _); rw [uniqK_take_succ K l j hlt, HN.out, HQ.out, HR.out]; rfl, HC2.out, HM2.out⟩
          case measure => simp [intOf]; omega
        · have HF := Lib.hid (uniqK_no K l j hlt (by rw [hq, Bool.not_true, Bool.and_false]))
          rw [hq] at hlook
          have HM := Lib.hid hmj
          clear hr hq hmj hwf
          go_wp2_with (go_at_call 104; with_reducible refine hv.mono ?_; rintro e wn ⟨rfl, hwn⟩; obtain rfl := hwn.symm)
          go_ret
          exact ⟨ret_bool HF.out.symm, hch, fun h => by rw [HF.out] at h; cases h⟩
    · have hj' : j = l.length := by omega
      subst hj'
      have HF : Hid (uniqK K l = true) := by have := HN.out; rwa [List.take_length] at this
      rw [List.take_length] at hmj
      have HM := Lib.hid hmj
      clear hmj
      go_wp2_with fail
      go_ret
      exact ⟨ret_bool HF.out.symm, hch, fun _ => HM.out⟩
mutual
theorem Tr.free_wf {w : World} {B : Nat} : ∀ (d : Tr Ko) (bd acc : List Int), Ko.E.In w B d → (∀ x ∈ acc, (Lit.int .i64 x).wf = true) → ∀ x ∈ d.free bd acc, (Lit.int .i64 x).wf = true
  | .mk a A c l, bd, acc => fun hin hacc => by
    have h := Ko.E_in hin
    exact Tr.freeL_wf l (bd ++ a.s) (a.freeN bd acc) (fun x hx => h.2.all x hx) (by
      intro x hx
      unfold Ko.freeN addN at hx
      split at hx
      · split at hx
        · exact hacc x hx
        · rcases List.mem_append.1 hx with hx | hx
          · exact hacc x hx
          · simp only [List.mem_cons, List.not_mem_nil, or_false] at hx
            rw [hx]
            exact h.1.wf.1
      · exact hacc x hx)
theorem Tr.freeL_wf {w : World} {B : Nat} : ∀ (l : List (Tr Ko)) (bd acc : List Int), (∀ d ∈ l, Ko.E.In w B d) → (∀ x ∈ acc, (Lit.int .i64 x).wf = true) → ∀ x ∈ Tr.freeL l bd acc, (Lit.int .i64 x).wf = true
  | [], _, _ => fun _ hacc => hacc
  | d :: r, bd, acc => fun hin hacc => Tr.freeL_wf r bd (d.free bd acc) (fun x hx => hin x (by simp [hx])) (Tr.free_wf d bd acc (hin d (by simp)) hacc)
end
def Tr.binds (d : Tr Ko) (gl : List Int) : Bool := uniqK [] gl && ((d.free [] []).all (fun n => gl.contains n) && uniqK gl (d.walk Ko.bound []))
set_option maxRecDepth 100000 in
set_option maxHeartbeats 1000000 in
theorem bindsAll_any (d : Tr Ko) (Ag : Option Addr) (cg : Nat) (gl : List Int) (B : Nat) (w : World) (hin : Ko.E.In w B d) (hgl : IIn w B Ag cg gl) (hB : B ≤ w.heap.size) (hb : d.bulk Ko.bulk ≤ 1500000) (hlen : gl.length ≤ 4000000) :
    Calls Tryz.prog 158 #[Ko.val d, .slice Ag gl.length cg] w fun e w' => e = .returned (.bool (d.binds gl)) ∧ Below w.heap.size w w' := by
  have hgcap := hgl.cap
  have hmm := @run_makeMap Tryz.prog
  obtain ⟨W, hW⟩ : ∃ W, W = w.alloc (.cells #[.int .i64 d.a.k, .int .i64 d.a.n, .slice d.a.sA d.a.s.length d.a.sC, .int .i64 d.a.d.k, .int .i64 d.a.d.n, .string d.a.d.t, .slice d.a.d.A d.a.d.l.length d.a.d.c, .slice d.A d.l.length d.c] 35) := ⟨_, rfl⟩
  obtain ⟨W2, hW2⟩ : ∃ W2, W2 = W.alloc (.map #[] 0) := ⟨_, rfl⟩
  have zW : W.heap.size = w.heap.size + 1 := by rw [hW]; simp
  have zW2 : W2.heap.size = w.heap.size + 1 + 1 := by rw [hW2]; simp [zW]
  have b1 : Below w.heap.size w W := by rw [hW]; exact (Below.refl _ _).alloc (Nat.le_refl _) _
  have b2 : Below w.heap.size w W2 := by rw [hW2]; exact b1.alloc (by omega) _
  have X2 : Ko.Box W2 w.heap.size d := by rw [hW2]; exact Ko.Box.below (by rw [hW]; exact Ko.Box.new _ _ _) ((Below.refl _ _).alloc (Nat.le_refl W.heap.size) _) (by omega)
  have hm2 : IMap W2 (.bool false) (w.heap.size + 1) 0 (fun k => .bool (([] : List Int).contains k)) := by
    have h := IMap.new W (.bool false)
    rw [← hW2, zW] at h
    exact h
  have hF0 : d.binds gl = (uniqK [] gl && ((d.free [] []).all (fun n => gl.contains n) && uniqK gl (d.walk Ko.bound []))) := rfl
  have HF0 := Lib.hid hF0
  clear hF0
  obtain ⟨U, hU⟩ : ∃ x, x = uniqK [] gl := ⟨_, rfl⟩
  have hadd := addVars_any (w.heap.size + 1) 0 [] Ag cg gl B W2 hm2 (by omega) (hgl.below (b2.mono hB)) (fun k hk => by have := hgl.blk_lt k hk; omega) (by omega)
  rw [← hU] at hadd
  have HU := Lib.hid hU
  clear hU
  have HXB := Lib.hid X2
  unfold Ko.val
  go_enter Tryz.func158, Tryz.ntmps158
  go_upto_region 2 with fail
  rw [← hW, ← hW2]
  clear hW hW2
  go_wp2_with (go_at_call 225; with_reducible refine hadd.mono ?_)
  clear hadd
  rintro e w1 ⟨rfl, hc1, hm1⟩
  have z1 := hc1.size
  have hb1 : Below w.heap.size w w1 := b2.trans (hc1.below (by simp) (by omega))
  cases hu : U
  · have HF : Hid (d.binds gl = false) := by show _ = _; rw [HF0.out, ← HU.out, hu]; rfl
    clear hu hm1
    go_wp2_with fail
    go_ret
    exact ⟨ret_bool HF.out.symm, hb1⟩
  · have hm1 := hm1 hu
    rw [List.nil_append] at hm1
    have HF : Hid (d.binds gl = ((d.free [] []).all (fun n => gl.contains n) && uniqK gl (d.walk Ko.bound []))) := by show _ = _; rw [HF0.out, ← HU.out, hu]; rfl
    have X1 : Ko.Box w1 w.heap.size d := HXB.out.chg hc1 (by omega) (by simp)
    have hin1 : Ko.E.In w1 w.heap.size d := Elem.In.below (Elem.In.more hin hB) hb1
    have hfw := Tr.free_wf d [] [] hin (by simp)
    have hfl := Ko.freeV_len d
    have hfre := implFre_any d w.heap.size w1 hin1 (by omega) hb
    obtain ⟨f, hf⟩ : ∃ f, f = d.free [] [] := ⟨_, rfl⟩
    rw [← hf] at HF hfre hfl hfw
    have HX1 := Lib.hid X1
    clear hu hf
    unfold Ko.val at hfre
    obtain ⟨a0, a1, a2, a3, a4, a5, a6, a7⟩ := X1
    go_wp2_with (go_at_call 106; with_reducible refine hfre.mono ?_)
    clear hfre a0 a1 a2 a3 a4 a5 a6 a7
    rintro e w2 ⟨A2, c2, rfl, ho2, hb2⟩
    have z2 := hb2.size
    have hi2 := ho2.inn
    have hcap2 := hi2.cap
    have hm2' := hm1.keep (hb2.block _ hm1.lt)
    have X2' := HX1.out.below hb2 (by omega)
    have hb02 := hb1.trans (hb2.mono (by omega))
    clear ho2
    go_wp2_with fail
    go_loopw [16] (fun i wr => ∃ j : Nat, j ≤ f.length ∧ i = .int .i64 j ∧ Hid (((f.take j).all fun n => gl.contains n) = true) ∧ wr = w2) (fun i _ => f.length - (intOf i).toNat)
    case atStart => exact ⟨0, Nat.zero_le _, rfl, rfl, rfl⟩
    case round =>
      obtain ⟨j, hj, rfl, HN, rfl⟩ := hrel
      by_cases hlt : j < f.length
      · obtain ⟨b, o, rfl, hblk, c0⟩ := hi2.at_ hlt
        have hlook := hm2'.look (t := 214) Tryz.underlying214 (zeroBool wr) (hfw _ (List.getElem_mem hlt))
        cases hq : gl.contains f[j]
        · have HQ : Hid ((f.all fun n => gl.contains n) = false) := by
            show _ = _
            rw [List.all_eq_false]
            exact ⟨f[j], List.getElem_mem hlt, by rw [hq]; simp⟩
          rw [hq] at hlook
          clear hq
          go_wp2_with fail
          go_ret
          exact ⟨ret_bool (by rw [HF.out, HQ.out]; rfl), hb02⟩
        · have HQ := Lib.hid hq
          rw [hq] at hlook
          clear hq
          go_wp2_with fail
          go_roundw
          case rel => exact ⟨j + 1, by omega, by go_num, by (show _ = _); rw [List.take_succ_eq_append_getElem hlt, List.all_append, HN.out]; simpa using HQ.out, by first | rfl | trivial⟩
          case measure => simp [intOf]; omega
      · have hj' : j = f.length := by omega
        subst hj'
        have HQ : Hid ((f.all fun n => gl.contains n) = true) := by have := HN.out; rwa [List.take_length] at this
        have hbnd := implBnd_any d w.heap.size wr (Elem.In.below hin1 (hb2.mono (by omega))) (by omega) hb
        obtain ⟨bd, hbd⟩ : ∃ b, b = d.walk Ko.bound [] := ⟨_, rfl⟩
        have hbl : bd.length ≤ 1500000 := by rw [hbd]; have := Tr.walk_len Ko.bound_len d []; simp only [List.length_nil] at this; omega
        rw [← hbd] at HF hbnd
        clear hbd
        unfold Ko.val at hbnd
        obtain ⟨a0, a1, a2, a3, a4, a5, a6, a7⟩ := X2'
        go_wp2_with (go_at_call 54; with_reducible refine hbnd.mono ?_)
        clear hbnd a0 a1 a2 a3 a4 a5 a6 a7
        rintro e w3 ⟨A3, c3, rfl, ho3, hb3⟩
        have z3 := hb3.size
        have hm3 := hm2'.keep (hb3.block _ hm2'.lt)
        have hadd := addVars_any (w.heap.size + 1) _ gl A3 c3 bd w3.heap.size w3 hm3 (Nat.le_refl _) ho3.inn (fun k hk => by have := ho3.lo_ k hk; omega) (by omega)
        have HB3 := Lib.hid (hb02.trans (hb3.mono (by omega)))
        clear hm3 hm2' ho3 hb3
        go_wp2_with (go_at_call 225; with_reducible refine hadd.mono ?_)
        clear hadd
        rintro e w4 ⟨rfl, hc4, _⟩
        have HB4 := Lib.hid (HB3.out.trans (hc4.below (by simp) (by omega)))
        clear hc4
        go_wp2_with fail
        go_ret
        exact ⟨ret_bool (by rw [HF.out, HQ.out]; rfl), HB4.out⟩
end Go.Proofs.YtpigpncbjckbcaaGreat
namespace Go.Proofs.YtpigpncbjckbcaaGreat
open Go.RowKit
theorem own_any (d : Tr Ko) (B : Nat) (w : World) (hin : Ko.E.In w B d) (hB : B ≤ w.heap.size) (hsz : d.a.d.size ≤ 2000000) : Calls Tryz.prog 257 #[Ko.val d] w fun e w' => e = .returned (.bool d.a.own) ∧ Below w.heap.size w w' := by
  by_cases h1 : d.a.k = 1
  · exact own1_any d B w hin hB hsz h1
  by_cases h2 : d.a.k = 2
  · exact own2_any d B w hin hB hsz h2
  by_cases h3 : d.a.k = 3
  · exact own3_any d B w hin hB hsz h3
  by_cases h4 : d.a.k = 4
  · exact own4_any d B w hin hB hsz h4
  by_cases h5 : d.a.k = 5
  · exact own5_any d B w hin hB hsz h5
  by_cases h6 : d.a.k = 6
  · exact own6_any d B w hin hB hsz h6
  by_cases h7 : d.a.k = 7
  · exact own7_any d B w hin hB hsz h7
  by_cases h8 : d.a.k = 8
  · exact own8_any d B w hin hB hsz h8
  by_cases h9 : d.a.k = 9
  · exact own9_any d B w hin hB hsz h9
  by_cases h10 : d.a.k = 10
  · exact own10_any d B w hin hB hsz h10
  by_cases h11 : d.a.k = 11
  · exact own11_any d B w hin hB hsz h11
  exact ownX_any d B w hin hB hsz ⟨h1, h2, h3, h4, h5, h6, h7, h8, h9, h10, h11⟩
theorem node_any (d : Tr Ko) (B : Nat) (w : World) (hin : Ko.E.In w B d) (hB : B ≤ w.heap.size) (hsz : d.a.d.size ≤ 2000000) : Calls Tryz.prog 258 #[Ko.val d] w fun e w' => e = .returned (.bool (d.a.node d.l.length (d.l.any isSq))) ∧ Below w.heap.size w w' := by
  by_cases h1 : d.a.k = 1
  · exact node1_any d B w hin hB hsz h1
  by_cases h2 : d.a.k = 2
  · exact node2_any d B w hin hB hsz h2
  by_cases h3 : d.a.k = 3
  · exact node3_any d B w hin hB hsz h3
  by_cases h4 : d.a.k = 4
  · exact node4_any d B w hin hB hsz h4
  by_cases h5 : d.a.k = 5
  · exact node5_any d B w hin hB hsz h5
  by_cases h6 : d.a.k = 6
  · exact node6_any d B w hin hB hsz h6
  by_cases h7 : d.a.k = 7
  · exact node7_any d B w hin hB hsz h7
  by_cases h8 : d.a.k = 8
  · exact node8_any d B w hin hB hsz h8
  by_cases h9 : d.a.k = 9
  · exact node9_any d B w hin hB hsz h9
  by_cases h10 : d.a.k = 10
  · exact node10_any d B w hin hB hsz h10
  by_cases h11 : d.a.k = 11
  · exact node11_any d B w hin hB hsz h11
  exact nodeX_any d B w hin hB hsz ⟨h1, h2, h3, h4, h5, h6, h7, h8, h9, h10, h11⟩
theorem own_node (a : Ko) (nk : Nat) (sq : Bool) : (a.own && a.node nk sq) = (a.shape nk && !(a.k == 8 && sq)) := by
  obtain ⟨N0, hN⟩ : ∃ x, x = (a.n == 0) := ⟨_, rfl⟩
  obtain ⟨P0, hP⟩ : ∃ x, x = ((a.s.length : Int) == 0) := ⟨_, rfl⟩
  obtain ⟨Z0, hZ⟩ : ∃ x, x = a.dz := ⟨_, rfl⟩
  obtain ⟨V0, hV⟩ : ∃ x, x = a.dv := ⟨_, rfl⟩
  have e13 : decide (a.n < 14) = decide (a.n ≤ 13) := decide_eq_decide.2 (by omega)
  by_cases k1 : a.k = 1
  · have e1 : a.own = ((N0 || false) && ((P0 || false) && (true || Z0))) := by unfold Ko.own Ko.isVar; rw [k1, ← hN, ← hP, ← hZ]; rfl
    have e2 : a.shape nk = ((true || Z0) && ((N0 || false) && kKind 1 a.n a.s.length nk V0)) := by unfold Ko.shape Ko.isVar; rw [k1, ← hN, ← hZ, ← hV]; rfl
    have e3 : a.node nk sq = nKind 1 a.n a.s.length nk V0 sq := by unfold Ko.node; rw [k1, ← hV]
    rw [e1, e2, e3, k1]
    simp only [kKind, nKind, ← hP, e13, Bool.decide_and, reduceIte, Int.reduceEq, Int.reduceBEq]
    generalize decide ((1 : Int) ≤ (nk : Int)) = b1
    generalize decide ((2 : Int) ≤ (nk : Int)) = b2
    generalize decide ((nk : Int) ≤ 9) = b3
    generalize decide ((nk : Int) ≤ 60) = b4
    generalize ((nk : Int) == 0) = b5
    generalize ((nk : Int) == 1) = b6
    generalize ((nk : Int) == 3) = b7
    generalize decide ((1 : Int) ≤ (a.s.length : Int)) = c1
    generalize decide ((a.s.length : Int) ≤ 60) = c2
    generalize decide ((a.s.length : Int) ≤ 8) = c3
    generalize ((a.s.length : Int) == 1) = c4
    generalize decide ((0 : Int) ≤ a.n) = c5
    generalize decide (a.n ≤ 13) = c6
    clear hN hP hZ hV e1 e2 e3
    cases N0 <;> cases P0 <;> cases Z0 <;> simp [Bool.and_comm, Bool.and_left_comm, Bool.and_assoc]
  by_cases k2 : a.k = 2
  · have e1 : a.own = ((N0 || true) && ((P0 || false) && (false || Z0))) := by unfold Ko.own Ko.isVar; rw [k2, ← hN, ← hP, ← hZ]; rfl
    have e2 : a.shape nk = ((false || Z0) && ((N0 || true) && kKind 2 a.n a.s.length nk V0)) := by unfold Ko.shape Ko.isVar; rw [k2, ← hN, ← hZ, ← hV]; rfl
    have e3 : a.node nk sq = nKind 2 a.n a.s.length nk V0 sq := by unfold Ko.node; rw [k2, ← hV]
    rw [e1, e2, e3, k2]
    simp only [kKind, nKind, ← hP, e13, Bool.decide_and, reduceIte, Int.reduceEq, Int.reduceBEq]
    generalize decide ((1 : Int) ≤ (nk : Int)) = b1
    generalize decide ((2 : Int) ≤ (nk : Int)) = b2
    generalize decide ((nk : Int) ≤ 9) = b3
    generalize decide ((nk : Int) ≤ 60) = b4
    generalize ((nk : Int) == 0) = b5
    generalize ((nk : Int) == 1) = b6
    generalize ((nk : Int) == 3) = b7
    generalize decide ((1 : Int) ≤ (a.s.length : Int)) = c1
    generalize decide ((a.s.length : Int) ≤ 60) = c2
    generalize decide ((a.s.length : Int) ≤ 8) = c3
    generalize ((a.s.length : Int) == 1) = c4
    generalize decide ((0 : Int) ≤ a.n) = c5
    generalize decide (a.n ≤ 13) = c6
    clear hN hP hZ hV e1 e2 e3
    cases N0 <;> cases P0 <;> cases Z0 <;> simp [Bool.and_comm, Bool.and_left_comm, Bool.and_assoc]
  by_cases k3 : a.k = 3
  · have e1 : a.own = ((N0 || true) && ((P0 || false) && (false || Z0))) := by unfold Ko.own Ko.isVar; rw [k3, ← hN, ← hP, ← hZ]; rfl
    have e2 : a.shape nk = ((false || Z0) && ((N0 || true) && kKind 3 a.n a.s.length nk V0)) := by unfold Ko.shape Ko.isVar; rw [k3, ← hN, ← hZ, ← hV]; rfl
    have e3 : a.node nk sq = nKind 3 a.n a.s.length nk V0 sq := by unfold Ko.node; rw [k3, ← hV]
    rw [e1, e2, e3, k3]
    simp only [kKind, nKind, ← hP, e13, Bool.decide_and, reduceIte, Int.reduceEq, Int.reduceBEq]
    generalize decide ((1 : Int) ≤ (nk : Int)) = b1
    generalize decide ((2 : Int) ≤ (nk : Int)) = b2
    generalize decide ((nk : Int) ≤ 9) = b3
    generalize decide ((nk : Int) ≤ 60) = b4
    generalize ((nk : Int) == 0) = b5
    generalize ((nk : Int) == 1) = b6
    generalize ((nk : Int) == 3) = b7
    generalize decide ((1 : Int) ≤ (a.s.length : Int)) = c1
    generalize decide ((a.s.length : Int) ≤ 60) = c2
    generalize decide ((a.s.length : Int) ≤ 8) = c3
    generalize ((a.s.length : Int) == 1) = c4
    generalize decide ((0 : Int) ≤ a.n) = c5
    generalize decide (a.n ≤ 13) = c6
    clear hN hP hZ hV e1 e2 e3
    cases N0 <;> cases P0 <;> cases Z0 <;> simp [Bool.and_comm, Bool.and_left_comm, Bool.and_assoc]
  by_cases k4 : a.k = 4
  · have e1 : a.own = ((N0 || true) && ((P0 || false) && (false || Z0))) := by unfold Ko.own Ko.isVar; rw [k4, ← hN, ← hP, ← hZ]; rfl
    have e2 : a.shape nk = ((false || Z0) && ((N0 || true) && kKind 4 a.n a.s.length nk V0)) := by unfold Ko.shape Ko.isVar; rw [k4, ← hN, ← hZ, ← hV]; rfl
    have e3 : a.node nk sq = nKind 4 a.n a.s.length nk V0 sq := by unfold Ko.node; rw [k4, ← hV]
    rw [e1, e2, e3, k4]
    simp only [kKind, nKind, ← hP, e13, Bool.decide_and, reduceIte, Int.reduceEq, Int.reduceBEq]
    generalize decide ((1 : Int) ≤ (nk : Int)) = b1
    generalize decide ((2 : Int) ≤ (nk : Int)) = b2
    generalize decide ((nk : Int) ≤ 9) = b3
    generalize decide ((nk : Int) ≤ 60) = b4
    generalize ((nk : Int) == 0) = b5
    generalize ((nk : Int) == 1) = b6
    generalize ((nk : Int) == 3) = b7
    generalize decide ((1 : Int) ≤ (a.s.length : Int)) = c1
    generalize decide ((a.s.length : Int) ≤ 60) = c2
    generalize decide ((a.s.length : Int) ≤ 8) = c3
    generalize ((a.s.length : Int) == 1) = c4
    generalize decide ((0 : Int) ≤ a.n) = c5
    generalize decide (a.n ≤ 13) = c6
    clear hN hP hZ hV e1 e2 e3
    cases N0 <;> cases P0 <;> cases Z0 <;> simp [Bool.and_comm, Bool.and_left_comm, Bool.and_assoc]
  by_cases k5 : a.k = 5
  · have e1 : a.own = ((N0 || false) && ((P0 || true) && (false || Z0))) := by unfold Ko.own Ko.isVar; rw [k5, ← hN, ← hP, ← hZ]; rfl
    have e2 : a.shape nk = ((false || Z0) && ((N0 || false) && kKind 5 a.n a.s.length nk V0)) := by unfold Ko.shape Ko.isVar; rw [k5, ← hN, ← hZ, ← hV]; rfl
    have e3 : a.node nk sq = nKind 5 a.n a.s.length nk V0 sq := by unfold Ko.node; rw [k5, ← hV]
    rw [e1, e2, e3, k5]
    simp only [kKind, nKind, ← hP, e13, Bool.decide_and, reduceIte, Int.reduceEq, Int.reduceBEq]
    generalize decide ((1 : Int) ≤ (nk : Int)) = b1
    generalize decide ((2 : Int) ≤ (nk : Int)) = b2
    generalize decide ((nk : Int) ≤ 9) = b3
    generalize decide ((nk : Int) ≤ 60) = b4
    generalize ((nk : Int) == 0) = b5
    generalize ((nk : Int) == 1) = b6
    generalize ((nk : Int) == 3) = b7
    generalize decide ((1 : Int) ≤ (a.s.length : Int)) = c1
    generalize decide ((a.s.length : Int) ≤ 60) = c2
    generalize decide ((a.s.length : Int) ≤ 8) = c3
    generalize ((a.s.length : Int) == 1) = c4
    generalize decide ((0 : Int) ≤ a.n) = c5
    generalize decide (a.n ≤ 13) = c6
    clear hN hP hZ hV e1 e2 e3
    cases N0 <;> cases P0 <;> cases Z0 <;> simp [Bool.and_comm, Bool.and_left_comm, Bool.and_assoc]
  by_cases k6 : a.k = 6
  · have e1 : a.own = ((N0 || false) && ((P0 || false) && (false || Z0))) := by unfold Ko.own Ko.isVar; rw [k6, ← hN, ← hP, ← hZ]; rfl
    have e2 : a.shape nk = ((false || Z0) && ((N0 || false) && kKind 6 a.n a.s.length nk V0)) := by unfold Ko.shape Ko.isVar; rw [k6, ← hN, ← hZ, ← hV]; rfl
    have e3 : a.node nk sq = nKind 6 a.n a.s.length nk V0 sq := by unfold Ko.node; rw [k6, ← hV]
    rw [e1, e2, e3, k6]
    simp only [kKind, nKind, ← hP, e13, Bool.decide_and, reduceIte, Int.reduceEq, Int.reduceBEq]
    generalize decide ((1 : Int) ≤ (nk : Int)) = b1
    generalize decide ((2 : Int) ≤ (nk : Int)) = b2
    generalize decide ((nk : Int) ≤ 9) = b3
    generalize decide ((nk : Int) ≤ 60) = b4
    generalize ((nk : Int) == 0) = b5
    generalize ((nk : Int) == 1) = b6
    generalize ((nk : Int) == 3) = b7
    generalize decide ((1 : Int) ≤ (a.s.length : Int)) = c1
    generalize decide ((a.s.length : Int) ≤ 60) = c2
    generalize decide ((a.s.length : Int) ≤ 8) = c3
    generalize ((a.s.length : Int) == 1) = c4
    generalize decide ((0 : Int) ≤ a.n) = c5
    generalize decide (a.n ≤ 13) = c6
    clear hN hP hZ hV e1 e2 e3
    cases N0 <;> cases P0 <;> cases Z0 <;> simp [Bool.and_comm, Bool.and_left_comm, Bool.and_assoc]
  by_cases k7 : a.k = 7
  · have e1 : a.own = ((N0 || false) && ((P0 || false) && (false || Z0))) := by unfold Ko.own Ko.isVar; rw [k7, ← hN, ← hP, ← hZ]; rfl
    have e2 : a.shape nk = ((false || Z0) && ((N0 || false) && kKind 7 a.n a.s.length nk V0)) := by unfold Ko.shape Ko.isVar; rw [k7, ← hN, ← hZ, ← hV]; rfl
    have e3 : a.node nk sq = nKind 7 a.n a.s.length nk V0 sq := by unfold Ko.node; rw [k7, ← hV]
    rw [e1, e2, e3, k7]
    simp only [kKind, nKind, ← hP, e13, Bool.decide_and, reduceIte, Int.reduceEq, Int.reduceBEq]
    generalize decide ((1 : Int) ≤ (nk : Int)) = b1
    generalize decide ((2 : Int) ≤ (nk : Int)) = b2
    generalize decide ((nk : Int) ≤ 9) = b3
    generalize decide ((nk : Int) ≤ 60) = b4
    generalize ((nk : Int) == 0) = b5
    generalize ((nk : Int) == 1) = b6
    generalize ((nk : Int) == 3) = b7
    generalize decide ((1 : Int) ≤ (a.s.length : Int)) = c1
    generalize decide ((a.s.length : Int) ≤ 60) = c2
    generalize decide ((a.s.length : Int) ≤ 8) = c3
    generalize ((a.s.length : Int) == 1) = c4
    generalize decide ((0 : Int) ≤ a.n) = c5
    generalize decide (a.n ≤ 13) = c6
    clear hN hP hZ hV e1 e2 e3
    cases N0 <;> cases P0 <;> cases Z0 <;> simp [Bool.and_comm, Bool.and_left_comm, Bool.and_assoc]
  by_cases k8 : a.k = 8
  · have e1 : a.own = ((N0 || false) && ((P0 || false) && (false || Z0))) := by unfold Ko.own Ko.isVar; rw [k8, ← hN, ← hP, ← hZ]; rfl
    have e2 : a.shape nk = ((false || Z0) && ((N0 || false) && kKind 8 a.n a.s.length nk V0)) := by unfold Ko.shape Ko.isVar; rw [k8, ← hN, ← hZ, ← hV]; rfl
    have e3 : a.node nk sq = nKind 8 a.n a.s.length nk V0 sq := by unfold Ko.node; rw [k8, ← hV]
    rw [e1, e2, e3, k8]
    simp only [kKind, nKind, ← hP, e13, Bool.decide_and, reduceIte, Int.reduceEq, Int.reduceBEq]
    generalize decide ((1 : Int) ≤ (nk : Int)) = b1
    generalize decide ((2 : Int) ≤ (nk : Int)) = b2
    generalize decide ((nk : Int) ≤ 9) = b3
    generalize decide ((nk : Int) ≤ 60) = b4
    generalize ((nk : Int) == 0) = b5
    generalize ((nk : Int) == 1) = b6
    generalize ((nk : Int) == 3) = b7
    generalize decide ((1 : Int) ≤ (a.s.length : Int)) = c1
    generalize decide ((a.s.length : Int) ≤ 60) = c2
    generalize decide ((a.s.length : Int) ≤ 8) = c3
    generalize ((a.s.length : Int) == 1) = c4
    generalize decide ((0 : Int) ≤ a.n) = c5
    generalize decide (a.n ≤ 13) = c6
    clear hN hP hZ hV e1 e2 e3
    cases N0 <;> cases P0 <;> cases Z0 <;> simp [Bool.and_comm, Bool.and_left_comm, Bool.and_assoc]
  by_cases k9 : a.k = 9
  · have e1 : a.own = ((N0 || false) && ((P0 || true) && (false || Z0))) := by unfold Ko.own Ko.isVar; rw [k9, ← hN, ← hP, ← hZ]; rfl
    have e2 : a.shape nk = ((false || Z0) && ((N0 || false) && kKind 9 a.n a.s.length nk V0)) := by unfold Ko.shape Ko.isVar; rw [k9, ← hN, ← hZ, ← hV]; rfl
    have e3 : a.node nk sq = nKind 9 a.n a.s.length nk V0 sq := by unfold Ko.node; rw [k9, ← hV]
    rw [e1, e2, e3, k9]
    simp only [kKind, nKind, ← hP, e13, Bool.decide_and, reduceIte, Int.reduceEq, Int.reduceBEq]
    generalize decide ((1 : Int) ≤ (nk : Int)) = b1
    generalize decide ((2 : Int) ≤ (nk : Int)) = b2
    generalize decide ((nk : Int) ≤ 9) = b3
    generalize decide ((nk : Int) ≤ 60) = b4
    generalize ((nk : Int) == 0) = b5
    generalize ((nk : Int) == 1) = b6
    generalize ((nk : Int) == 3) = b7
    generalize decide ((1 : Int) ≤ (a.s.length : Int)) = c1
    generalize decide ((a.s.length : Int) ≤ 60) = c2
    generalize decide ((a.s.length : Int) ≤ 8) = c3
    generalize ((a.s.length : Int) == 1) = c4
    generalize decide ((0 : Int) ≤ a.n) = c5
    generalize decide (a.n ≤ 13) = c6
    clear hN hP hZ hV e1 e2 e3
    cases N0 <;> cases P0 <;> cases Z0 <;> simp [Bool.and_comm, Bool.and_left_comm, Bool.and_assoc]
  by_cases k10 : a.k = 10
  · have e1 : a.own = ((N0 || false) && ((P0 || false) && (false || Z0))) := by unfold Ko.own Ko.isVar; rw [k10, ← hN, ← hP, ← hZ]; rfl
    have e2 : a.shape nk = ((false || Z0) && ((N0 || false) && kKind 10 a.n a.s.length nk V0)) := by unfold Ko.shape Ko.isVar; rw [k10, ← hN, ← hZ, ← hV]; rfl
    have e3 : a.node nk sq = nKind 10 a.n a.s.length nk V0 sq := by unfold Ko.node; rw [k10, ← hV]
    rw [e1, e2, e3, k10]
    simp only [kKind, nKind, ← hP, e13, Bool.decide_and, reduceIte, Int.reduceEq, Int.reduceBEq]
    generalize decide ((1 : Int) ≤ (nk : Int)) = b1
    generalize decide ((2 : Int) ≤ (nk : Int)) = b2
    generalize decide ((nk : Int) ≤ 9) = b3
    generalize decide ((nk : Int) ≤ 60) = b4
    generalize ((nk : Int) == 0) = b5
    generalize ((nk : Int) == 1) = b6
    generalize ((nk : Int) == 3) = b7
    generalize decide ((1 : Int) ≤ (a.s.length : Int)) = c1
    generalize decide ((a.s.length : Int) ≤ 60) = c2
    generalize decide ((a.s.length : Int) ≤ 8) = c3
    generalize ((a.s.length : Int) == 1) = c4
    generalize decide ((0 : Int) ≤ a.n) = c5
    generalize decide (a.n ≤ 13) = c6
    clear hN hP hZ hV e1 e2 e3
    cases N0 <;> cases P0 <;> cases Z0 <;> simp [Bool.and_comm, Bool.and_left_comm, Bool.and_assoc]
  by_cases k11 : a.k = 11
  · have e1 : a.own = ((N0 || false) && ((P0 || true) && (false || Z0))) := by unfold Ko.own Ko.isVar; rw [k11, ← hN, ← hP, ← hZ]; rfl
    have e2 : a.shape nk = ((false || Z0) && ((N0 || false) && kKind 11 a.n a.s.length nk V0)) := by unfold Ko.shape Ko.isVar; rw [k11, ← hN, ← hZ, ← hV]; rfl
    have e3 : a.node nk sq = nKind 11 a.n a.s.length nk V0 sq := by unfold Ko.node; rw [k11, ← hV]
    rw [e1, e2, e3, k11]
    simp only [kKind, nKind, ← hP, e13, Bool.decide_and, reduceIte, Int.reduceEq, Int.reduceBEq]
    generalize decide ((1 : Int) ≤ (nk : Int)) = b1
    generalize decide ((2 : Int) ≤ (nk : Int)) = b2
    generalize decide ((nk : Int) ≤ 9) = b3
    generalize decide ((nk : Int) ≤ 60) = b4
    generalize ((nk : Int) == 0) = b5
    generalize ((nk : Int) == 1) = b6
    generalize ((nk : Int) == 3) = b7
    generalize decide ((1 : Int) ≤ (a.s.length : Int)) = c1
    generalize decide ((a.s.length : Int) ≤ 60) = c2
    generalize decide ((a.s.length : Int) ≤ 8) = c3
    generalize ((a.s.length : Int) == 1) = c4
    generalize decide ((0 : Int) ≤ a.n) = c5
    generalize decide (a.n ≤ 13) = c6
    clear hN hP hZ hV e1 e2 e3
    cases N0 <;> cases P0 <;> cases Z0 <;> simp [Bool.and_comm, Bool.and_left_comm, Bool.and_assoc]
  have f1 : kKind a.k a.n a.s.length nk a.dv = false := by simp [kKind, k1, k2, k3, k4, k5, k6, k7, k8, k9, k10, k11]
  have f2 : nKind a.k a.n a.s.length nk a.dv sq = false := by simp [nKind, k1, k2, k3, k4, k5, k6, k7, k8, k9, k10, k11]
  unfold Ko.node Ko.shape
  rw [f1, f2]
  simp
mutual
def Tr.okP : Tr Ko → Bool | .mk a _ _ l => (a.own && a.node l.length (l.any isSq)) && Tr.okPL l
def Tr.okPL : List (Tr Ko) → Bool | [] => true | d :: r => Tr.okP d && Tr.okPL r
end
theorem Tr.okP_eq (d : Tr Ko) : d.okP = ((d.a.own && d.a.node d.l.length (d.l.any isSq)) && Tr.okPL d.l) := by cases d; rfl
theorem Tr.okPL_append (a b : List (Tr Ko)) : Tr.okPL (a ++ b) = (Tr.okPL a && Tr.okPL b) := by
  induction a with
  | nil => simp [Tr.okPL]
  | cons d r ih => simp only [List.cons_append, Tr.okPL, ih, Bool.and_assoc]
theorem Tr.okPL_take_succ (l : List (Tr Ko)) (j : Nat) (h : j < l.length) : Tr.okPL (l.take (j + 1)) = (Tr.okPL (l.take j) && (l[j]).okP) := by
  rw [List.take_succ_eq_append_getElem h, Tr.okPL_append]; simp [Tr.okPL]
theorem Tr.okPL_mem (l : List (Tr Ko)) (h : Tr.okPL l = true) : ∀ d ∈ l, d.okP = true := by
  induction l with
  | nil => simp
  | cons x r ih =>
    simp only [Tr.okPL, Bool.and_eq_true] at h
    intro d hd
    rcases List.mem_cons.1 hd with rfl | hd
    · exact h.1
    · exact ih h.2 d hd
mutual
theorem Tr.okP_nodes : ∀ d : Tr Ko, d.okP = d.nodes
  | .mk a _ _ l => by
    have h := Tr.okPL_nodes a.k l
    simp only [Tr.okP, Tr.nodes, own_node]
    rw [h]
    cases a.shape l.length <;> cases (a.k == 8 && l.any isSq) <;> cases Tr.okPL l <;> rfl
theorem Tr.okPL_nodes : ∀ (k : Int) (l : List (Tr Ko)), Tr.nodesL k l = (Tr.okPL l && !(k == 8 && l.any isSq))
  | _, [] => by simp [Tr.nodesL, Tr.okPL]
  | k, d :: r => by
    have h1 := Tr.okP_nodes d
    have h2 := Tr.okPL_nodes k r
    simp only [Tr.nodesL, Tr.okPL, List.any_cons, ← h1, h2, isSq]
    cases d.okP <;> cases (k == 8) <;> cases (d.a.k == 8) <;> cases Tr.okPL r <;> cases r.any isSq <;> rfl
end
def Tr.fitB (d : Tr Ko) (L D : Int) : Bool := decide ((d.size : Int) ≤ L) && (decide ((d.depth : Int) ≤ D) && d.okP)
theorem Tr.fitB_of {d : Tr Ko} {L D : Int} (h : d.fitB L D = true) : (d.size : Int) ≤ L ∧ (d.depth : Int) ≤ D ∧ d.okP = true := by
  unfold Tr.fitB at h
  simpa [Bool.and_eq_true] using h
theorem Tr.fitB_mk {d : Tr Ko} {L D : Int} (h1 : (d.size : Int) ≤ L) (h2 : (d.depth : Int) ≤ D) (h3 : d.okP = true) : d.fitB L D = true := by
  unfold Tr.fitB
  rw [decide_eq_true h1, decide_eq_true h2, h3]; rfl
theorem Tr.fitB_kid {d : Tr Ko} {L D : Int} {j : Nat} (hj : j < d.l.length) (h : (d.l[j]).fitB (L - 1 - Tr.sizeL (d.l.take j)) (D - 1) = false) : d.fitB L D = false := by
  cases hq : d.fitB L D
  · rfl
  · obtain ⟨h1, h2, h3⟩ := Tr.fitB_of hq
    rw [Tr.okP_eq] at h3
    simp only [Bool.and_eq_true] at h3
    have hk := Tr.okPL_mem d.l h3.2 d.l[j] (List.getElem_mem hj)
    have hd := Tr.depthL_mem (l := d.l) (List.getElem_mem hj)
    have hde := Tr.depth_eq d
    have hse := Tr.size_eq d
    have hs := Tr.sizeL_append (d.l.take j) (d.l.drop j)
    rw [List.take_append_drop, List.drop_eq_getElem_cons hj] at hs
    simp only [Tr.sizeL] at hs
    rw [Tr.fitB_mk (by omega) (by omega) hk] at h
    exact h
end Go.Proofs.YtpigpncbjckbcaaGreat
namespace Go.Proofs.YtpigpncbjckbcaaGreat
open Go.RowKit
def KoFitOk (m : Nat) : Prop := ∀ (d : Tr Ko) (B g : Nat) (w : World) (L Dp : Int), d.size ≤ m → Ko.E.In w B d → B ≤ g → d.bulk Ko.bulk ≤ 1500000 → 0 ≤ L → L ≤ 1000000 → 0 ≤ Dp → Dp ≤ 1000000 → CellN g (.int .i64 L) w →
    Calls Tryz.prog 224 #[Ko.val d, .pointer (some ⟨g, 0, none⟩), .int .i64 Dp] w fun e w' => e = .returned (.bool (d.fitB L Dp)) ∧ Chg [g] w w' ∧ (d.fitB L Dp = true → CellN g (.int .i64 (L - d.size)) w')
set_option maxRecDepth 100000 in
set_option maxHeartbeats 2000000 in
theorem fit_step (m : Nat) (ih : KoFitOk m) : KoFitOk (m + 1) := by
  intro d B g w L Dp hm hin hBg hbulk hL0 hL1 hD0 hD1 hc
  have hglt := hc.lt
  have hB : B ≤ w.heap.size := by omega
  have hcap := (Ko.E_in hin).2.cap
  have hsq := Tr.size_eq d
  have hdq := Tr.depth_eq d
  have hbq := Tr.bulk_eq Ko.bulk d
  have hkb : Ko.bulk d.a = d.a.s.length + d.a.d.bulk := rfl
  have hdb := D.bulk_size d.a.d
  have hds : d.a.d.size ≤ 2000000 := by omega
  obtain ⟨W, hW⟩ : ∃ W, W = w.alloc (.cells #[.int .i64 d.a.k, .int .i64 d.a.n, .slice d.a.sA d.a.s.length d.a.sC, .int .i64 d.a.d.k, .int .i64 d.a.d.n, .string d.a.d.t, .slice d.a.d.A d.a.d.l.length d.a.d.c, .slice d.A d.l.length d.c] 35) := ⟨_, rfl⟩
  have zW : W.heap.size = w.heap.size + 1 := by rw [hW]; simp
  have zl : w.heap.size < W.heap.size := by omega
  have hcur : Below w.heap.size w W := by rw [hW]; exact (Below.refl _ _).alloc (Nat.le_refl _) _
  have X : Ko.Box W w.heap.size d := by rw [hW]; exact Ko.Box.new _ _ _
  have hcg : CellN g (.int .i64 L) W := by rw [hW]; exact hc.alloc _
  have hown : ∀ z : World, Below B w z → B ≤ z.heap.size → Calls Tryz.prog 257 #[.agg #[.int .i64 d.a.k, .int .i64 d.a.n, .slice d.a.sA d.a.s.length d.a.sC, .int .i64 d.a.d.k, .int .i64 d.a.d.n, .string d.a.d.t, .slice d.a.d.A d.a.d.l.length d.a.d.c, .slice d.A d.l.length d.c]] z fun e w' => e = .returned (.bool d.a.own) ∧ Below z.heap.size z w' := fun z hz hb => own_any d B z (Elem.In.below hin hz) hb hds
  have hnod : ∀ z : World, Below B w z → B ≤ z.heap.size → Calls Tryz.prog 258 #[.agg #[.int .i64 d.a.k, .int .i64 d.a.n, .slice d.a.sA d.a.s.length d.a.sC, .int .i64 d.a.d.k, .int .i64 d.a.d.n, .string d.a.d.t, .slice d.a.d.A d.a.d.l.length d.a.d.c, .slice d.A d.l.length d.c]] z fun e w' => e = .returned (.bool (d.a.node d.l.length (d.l.any isSq))) ∧ Below z.heap.size z w' := fun z hz hb => node_any d B z (Elem.In.below hin hz) hb hds
  unfold Ko.val
  have Xq := X
  obtain ⟨a0, a1, a2, a3, a4, a5, a6, a7⟩ := Xq
  have pc := hcg.cell
  have pf := hcg.fr
  clear zW
  by_cases hLz : L = 0
  · have HF : Hid (d.fitB L Dp = false) := by show _ = _; unfold Tr.fitB; rw [decide_eq_false (by have := d.size_pos; omega)]; rfl
    have h0 : (L == 0) = true := by rw [hLz]; rfl
    have HO := Lib.hid hown
    have HN := Lib.hid hnod
    clear hLz hown hnod
    go_enter Tryz.func224, Tryz.ntmps224
    go_upto_region 1 with fail
    rw [← hW]
    clear hW
    go_wp2_with (first
      | (go_at_call 257; with_reducible refine (HO.out _ (hcur.mono hB) (Nat.le_trans hB hcur.size)).mono ?_; rintro e wn ⟨rfl, hbn⟩; have X := X.below hbn zl; have hcg := hcg.keep hbn.size (hbn.block g hcg.lt); have hcur := hcur.trans (hbn.mono (Nat.le_of_lt zl)); have zl := Nat.lt_of_lt_of_le zl hbn.size; have Xq := X; obtain ⟨a0, a1, a2, a3, a4, a5, a6, a7⟩ := Xq; have pc := hcg.cell; have pf := hcg.fr)
      | (go_at_call 258; with_reducible refine (HN.out _ (hcur.mono hB) (Nat.le_trans hB hcur.size)).mono ?_; rintro e wn ⟨rfl, hbn⟩; have X := X.below hbn zl; have hcg := hcg.keep hbn.size (hbn.block g hcg.lt); have hcur := hcur.trans (hbn.mono (Nat.le_of_lt zl)); have zl := Nat.lt_of_lt_of_le zl hbn.size; have Xq := X; obtain ⟨a0, a1, a2, a3, a4, a5, a6, a7⟩ := Xq; have pc := hcg.cell; have pf := hcg.fr))
    go_ret
    exact ⟨ret_bool HF.out.symm, (Chg.of_below hcur), fun h => by rw [HF.out] at h; cases h⟩
  by_cases hDz : Dp = 0
  · have HF : Hid (d.fitB L Dp = false) := by show _ = _; unfold Tr.fitB; rw [decide_eq_false (p := (d.depth : Int) ≤ Dp) (by omega)]; simp
    have h0 : (L == 0) = false := by simp [hLz]
    have h1 : (Dp == 0) = true := by rw [hDz]; rfl
    have HO := Lib.hid hown
    have HN := Lib.hid hnod
    clear hLz hDz hown hnod
    go_enter Tryz.func224, Tryz.ntmps224
    go_upto_region 1 with fail
    rw [← hW]
    clear hW
    go_wp2_with (first
      | (go_at_call 257; with_reducible refine (HO.out _ (hcur.mono hB) (Nat.le_trans hB hcur.size)).mono ?_; rintro e wn ⟨rfl, hbn⟩; have X := X.below hbn zl; have hcg := hcg.keep hbn.size (hbn.block g hcg.lt); have hcur := hcur.trans (hbn.mono (Nat.le_of_lt zl)); have zl := Nat.lt_of_lt_of_le zl hbn.size; have Xq := X; obtain ⟨a0, a1, a2, a3, a4, a5, a6, a7⟩ := Xq; have pc := hcg.cell; have pf := hcg.fr)
      | (go_at_call 258; with_reducible refine (HN.out _ (hcur.mono hB) (Nat.le_trans hB hcur.size)).mono ?_; rintro e wn ⟨rfl, hbn⟩; have X := X.below hbn zl; have hcg := hcg.keep hbn.size (hbn.block g hcg.lt); have hcur := hcur.trans (hbn.mono (Nat.le_of_lt zl)); have zl := Nat.lt_of_lt_of_le zl hbn.size; have Xq := X; obtain ⟨a0, a1, a2, a3, a4, a5, a6, a7⟩ := Xq; have pc := hcg.cell; have pf := hcg.fr))
    go_ret
    exact ⟨ret_bool HF.out.symm, (Chg.of_below hcur), fun h => by rw [HF.out] at h; cases h⟩
  have h0 : (L == 0) = false := by simp [hLz]
  have h1 : (Dp == 0) = false := by simp [hDz]
  have hL2 : 1 ≤ L := by omega
  have hD2 : 1 ≤ Dp := by omega
  clear hLz hDz
  cases ho : d.a.own
  · have HF : Hid (d.fitB L Dp = false) := by show _ = _; unfold Tr.fitB; rw [Tr.okP_eq, ho]; simp
    rw [ho] at hown
    have HO := Lib.hid hown
    have HN := Lib.hid hnod
    clear ho hown hnod
    go_enter Tryz.func224, Tryz.ntmps224
    go_upto_region 1 with fail
    rw [← hW]
    clear hW
    go_wp2_with (first
      | (go_at_call 257; with_reducible refine (HO.out _ (hcur.mono hB) (Nat.le_trans hB hcur.size)).mono ?_; rintro e wn ⟨rfl, hbn⟩; have X := X.below hbn zl; have hcg := hcg.keep hbn.size (hbn.block g hcg.lt); have hcur := hcur.trans (hbn.mono (Nat.le_of_lt zl)); have zl := Nat.lt_of_lt_of_le zl hbn.size; have Xq := X; obtain ⟨a0, a1, a2, a3, a4, a5, a6, a7⟩ := Xq; have pc := hcg.cell; have pf := hcg.fr)
      | (go_at_call 258; with_reducible refine (HN.out _ (hcur.mono hB) (Nat.le_trans hB hcur.size)).mono ?_; rintro e wn ⟨rfl, hbn⟩; have X := X.below hbn zl; have hcg := hcg.keep hbn.size (hbn.block g hcg.lt); have hcur := hcur.trans (hbn.mono (Nat.le_of_lt zl)); have zl := Nat.lt_of_lt_of_le zl hbn.size; have Xq := X; obtain ⟨a0, a1, a2, a3, a4, a5, a6, a7⟩ := Xq; have pc := hcg.cell; have pf := hcg.fr))
    go_ret
    exact ⟨ret_bool HF.out.symm, (Chg.of_below hcur), fun h => by rw [HF.out] at h; cases h⟩
  cases hn : d.a.node d.l.length (d.l.any isSq)
  · have HF : Hid (d.fitB L Dp = false) := by show _ = _; unfold Tr.fitB; rw [Tr.okP_eq, hn]; simp
    rw [ho] at hown
    rw [hn] at hnod
    have HO := Lib.hid hown
    have HN := Lib.hid hnod
    clear ho hn hown hnod
    go_enter Tryz.func224, Tryz.ntmps224
    go_upto_region 1 with fail
    rw [← hW]
    clear hW
    go_wp2_with (first
      | (go_at_call 257; with_reducible refine (HO.out _ (hcur.mono hB) (Nat.le_trans hB hcur.size)).mono ?_; rintro e wn ⟨rfl, hbn⟩; have X := X.below hbn zl; have hcg := hcg.keep hbn.size (hbn.block g hcg.lt); have hcur := hcur.trans (hbn.mono (Nat.le_of_lt zl)); have zl := Nat.lt_of_lt_of_le zl hbn.size; have Xq := X; obtain ⟨a0, a1, a2, a3, a4, a5, a6, a7⟩ := Xq; have pc := hcg.cell; have pf := hcg.fr)
      | (go_at_call 258; with_reducible refine (HN.out _ (hcur.mono hB) (Nat.le_trans hB hcur.size)).mono ?_; rintro e wn ⟨rfl, hbn⟩; have X := X.below hbn zl; have hcg := hcg.keep hbn.size (hbn.block g hcg.lt); have hcur := hcur.trans (hbn.mono (Nat.le_of_lt zl)); have zl := Nat.lt_of_lt_of_le zl hbn.size; have Xq := X; obtain ⟨a0, a1, a2, a3, a4, a5, a6, a7⟩ := Xq; have pc := hcg.cell; have pf := hcg.fr))
    go_ret
    exact ⟨ret_bool HF.out.symm, (Chg.of_below hcur), fun h => by rw [HF.out] at h; cases h⟩
  rw [ho] at hown
  rw [hn] at hnod
  have HO := Lib.hid hown
  have HN := Lib.hid hnod
  have HON : Hid ((d.a.own && d.a.node d.l.length (d.l.any isSq)) = true) := by show _ = _; rw [ho, hn]; rfl
  clear ho hn hown hnod
  go_enter Tryz.func224, Tryz.ntmps224
  go_upto_region 1 with fail
  rw [← hW]
  clear hW
  go_upto_region 3 with (first
    | (go_at_call 257; with_reducible refine (HO.out _ (hcur.mono hB) (Nat.le_trans hB hcur.size)).mono ?_; rintro e wn ⟨rfl, hbn⟩; have X := X.below hbn zl; have hcg := hcg.keep hbn.size (hbn.block g hcg.lt); have hcur := hcur.trans (hbn.mono (Nat.le_of_lt zl)); have zl := Nat.lt_of_lt_of_le zl hbn.size; have Xq := X; obtain ⟨a0, a1, a2, a3, a4, a5, a6, a7⟩ := Xq; have pc := hcg.cell; have pf := hcg.fr)
    | (go_at_call 258; with_reducible refine (HN.out _ (hcur.mono hB) (Nat.le_trans hB hcur.size)).mono ?_; rintro e wn ⟨rfl, hbn⟩; have X := X.below hbn zl; have hcg := hcg.keep hbn.size (hbn.block g hcg.lt); have hcur := hcur.trans (hbn.mono (Nat.le_of_lt zl)); have zl := Nat.lt_of_lt_of_le zl hbn.size; have Xq := X; obtain ⟨a0, a1, a2, a3, a4, a5, a6, a7⟩ := Xq; have pc := hcg.cell; have pf := hcg.fr))
  have hch3 : Chg [g] w (wn.setCell ⟨g, 0, none⟩ (.int .i64 (L - 1))) := (Chg.of_below hcur).setCell (.inl (by simp)) _
  have hcg3 := hcg.put (.int .i64 (L - 1))
  have zl3 : w.heap.size < (wn.setCell ⟨g, 0, none⟩ (.int .i64 (L - 1))).heap.size := by simpa using zl
  have HCH := Lib.hid hch3
  have HCG := Lib.hid hcg3
  clear hch3 hcg3 HO HN
  go_wp2_with fail
  clear a0 a1 a2 a3 a4 a5 a6 a7 pc pf
  go_loopw [35] (fun i wr => ∃ j : Nat, j ≤ d.l.length ∧ i = .int .i64 j ∧ Hid (Tr.okPL (d.l.take j) = true) ∧ (Tr.sizeL (d.l.take j) : Int) ≤ L - 1 ∧ (Tr.depthL (d.l.take j) : Int) ≤ Dp - 1 ∧ CellN g (.int .i64 (L - 1 - Tr.sizeL (d.l.take j))) wr ∧ Chg [g] w wr) (fun i _ => d.l.length - (intOf i).toNat)
  case atStart => exact ⟨0, Nat.zero_le _, rfl, rfl, by simp [Tr.sizeL]; omega, by simp [Tr.depthL]; omega, by simpa [Tr.sizeL] using HCG.out, HCH.out⟩
  case round =>
    obtain ⟨j, hj, rfl, HOK, hs1, hd1, hcj, hch⟩ := hrel
    have hs2 := hch.size
    by_cases hlt : j < d.l.length
    · obtain ⟨b, o, hA, hblk, c0, c1, c2, c3, c4, c5, c6, c7, hix⟩ := Ko.at_ ((Ko.E_in hin).2.below (hch.below (B := B) (by simpa using hBg) hB)) (i := j) (x := d.l[j]) (List.getElem?_eq_getElem hlt)
      have hsz := Tr.sizeL_mem (l := d.l) (List.getElem_mem hlt)
      have hbk := Tr.bulkL_mem (f := Ko.bulk) (l := d.l) (List.getElem_mem hlt)
      have HSS := Lib.hid (Tr.sizeL_take_succ d.l j hlt)
      have HDS := Lib.hid (Tr.depthL_take_succ d.l j hlt)
      have HOS := Lib.hid (Tr.okPL_take_succ d.l j hlt)
      have hc2 := hcj.alloc (.cells #[.int .i64 d.l[j].a.k, .int .i64 d.l[j].a.n, .slice d.l[j].a.sA d.l[j].a.s.length d.l[j].a.sC, .int .i64 d.l[j].a.d.k, .int .i64 d.l[j].a.d.n, .string d.l[j].a.d.t, .slice d.l[j].a.d.A d.l[j].a.d.l.length d.l[j].a.d.c, .slice d.l[j].A d.l[j].l.length d.l[j].c] 35)
      have HC2 := Lib.hid hc2
      have HCH2 := Lib.hid (hch.alloc (.cells #[.int .i64 d.l[j].a.k, .int .i64 d.l[j].a.n, .slice d.l[j].a.sA d.l[j].a.s.length d.l[j].a.sC, .int .i64 d.l[j].a.d.k, .int .i64 d.l[j].a.d.n, .string d.l[j].a.d.t, .slice d.l[j].a.d.A d.l[j].a.d.l.length d.l[j].a.d.c, .slice d.l[j].A d.l[j].l.length d.l[j].c] 35))
      clear hc2 hcj hch
      rw [hA]
      clear hA
      go_wp2_with fail
      refine (ih d.l[j] B g _ (L - 1 - Tr.sizeL (d.l.take j)) (Dp - 1) (by omega) (Elem.In.alloc hix (by omega) _) hBg (by omega) (by omega) (by omega) (by omega) (by omega) HC2.out).mono ?_
      rintro e w1 ⟨rfl, hc3, hg3⟩
      have HCH3 := Lib.hid (HCH2.out.trans hc3)
      clear hc3
      cases hq : (d.l[j]).fitB (L - 1 - Tr.sizeL (d.l.take j)) (Dp - 1)
      · have HF := Lib.hid (Tr.fitB_kid hlt hq)
        clear hq hg3
        go_wp2_with fail
        go_ret
        exact ⟨ret_bool HF.out.symm, HCH3.out, fun h => by rw [HF.out] at h; cases h⟩
      · obtain ⟨f1, f2, f3⟩ := Tr.fitB_of hq
        have HG3 := Lib.hid (hg3 hq)
        have HF3 := Lib.hid f3
        clear hq hg3 f3
        go_wp2_with fail
        go_roundw
        case rel => exact ⟨j + 1, by omega, by go_num, by (show _ = _); rw [HOS.out, HOK.out, HF3.out]; rfl, by rw [HSS.out]; omega, by rw [HDS.out]; omega, by rw [HSS.out]; have h := HG3.out; rwa [show L - 1 - (Tr.sizeL (d.l.take j) : Int) - ((d.l[j]).size : Int) = L - 1 - ((Tr.sizeL (d.l.take j) + (d.l[j]).size : Nat) : Int) by omega] at h, HCH3.out⟩
        case measure => simp [intOf]; omega
    · have hj' : j = d.l.length := by omega
      subst hj'
      rw [List.take_length] at hs1 hd1 hcj
      have HOK2 : Hid (Tr.okPL d.l = true) := by have := HOK.out; rwa [List.take_length] at this
      have HF : Hid (d.fitB L Dp = true) := Tr.fitB_mk (by omega) (by omega) (by rw [Tr.okP_eq, HON.out, HOK2.out]; rfl)
      have HC := Lib.hid hcj
      clear hcj
      go_wp2_with fail
      go_ret
      exact ⟨ret_bool HF.out.symm, hch, fun _ => by have h := HC.out; rwa [show L - 1 - (Tr.sizeL d.l : Int) = L - (d.size : Int) by omega] at h⟩
theorem fit_any : ∀ m, KoFitOk m := by
  intro m
  induction m with
  | zero => intro d B g w L Dp h; have := d.size_pos; omega
  | succ m ih => exact fit_step m ih
set_option maxRecDepth 100000 in
theorem isTerm_any (d : Tr Ko) (B : Nat) (w : World) (hin : Ko.E.In w B d) (hB : B ≤ w.heap.size) (hb : d.bulk Ko.bulk ≤ 1500000) : Calls Tryz.prog 157 #[Ko.val d] w fun e w' => e = .returned (.bool (d.fitB 3000 150)) ∧ Below w.heap.size w w' := by
  obtain ⟨W, hW⟩ : ∃ W, W = w.alloc (.cells #[.int .i64 d.a.k, .int .i64 d.a.n, .slice d.a.sA d.a.s.length d.a.sC, .int .i64 d.a.d.k, .int .i64 d.a.d.n, .string d.a.d.t, .slice d.a.d.A d.a.d.l.length d.a.d.c, .slice d.A d.l.length d.c] 35) := ⟨_, rfl⟩
  obtain ⟨W2, hW2⟩ : ∃ W2, W2 = W.alloc (.cells #[.int .i64 3000] 3) := ⟨_, rfl⟩
  have zW : W.heap.size = w.heap.size + 1 := by rw [hW]; simp
  have zW2 : W2.heap.size = w.heap.size + 2 := by rw [hW2]; simp [zW]
  have b1 : Below w.heap.size w W := by rw [hW]; exact (Below.refl _ _).alloc (Nat.le_refl _) _
  have b2 : Below w.heap.size w W2 := by rw [hW2]; exact b1.alloc (by omega) _
  have hin2 : Ko.E.In W2 B d := Elem.In.below hin (b2.mono hB)
  have hc : CellN (w.heap.size + 1) (.int .i64 3000) W2 := by rw [hW2, ← zW]; exact CellN.new _ _ _
  obtain ⟨V, hV⟩ : ∃ V, V = d.fitB 3000 150 := ⟨_, rfl⟩
  have hf := fit_any d.size d B (w.heap.size + 1) W2 3000 150 (Nat.le_refl _) hin2 (by omega) hb (by omega) (by omega) (by omega) (by omega) hc
  rw [← hV] at hf ⊢
  clear hV
  unfold Ko.val at hf ⊢
  go_enter Tryz.func157, Tryz.ntmps157
  go_wp2_with fail
  rw [← hW, ← hW2]
  clear hW hW2
  refine hf.mono ?_
  rintro e w1 ⟨rfl, hc1, _⟩
  have HB := Lib.hid (b2.trans (hc1.below (B := w.heap.size) (by simp) (by omega)))
  clear hc1 hc hf
  go_wp2_with fail
  go_ret
  exact ⟨rfl, HB.out⟩
theorem Tr.isCore_eq (d : Tr Ko) (gl : List Int) : d.isCore gl = (d.fitB 3000 150 && d.binds gl) := by
  unfold Tr.isCore Tr.fitB Tr.binds
  rw [Tr.okP_nodes, uniqK_append, List.nil_append]
  have e1 : decide (d.size ≤ 3000) = decide ((d.size : Int) ≤ 3000) := decide_eq_decide.2 (by omega)
  have e2 : decide (d.depth ≤ 150) = decide ((d.depth : Int) ≤ 150) := decide_eq_decide.2 (by omega)
  rw [e1, e2]
  cases decide ((d.size : Int) ≤ 3000) <;> cases decide ((d.depth : Int) ≤ 150) <;> cases d.nodes <;> cases uniqK [] gl <;> cases uniqK gl (d.walk Ko.bound []) <;> cases ((d.free [] []).all fun n => gl.contains n) <;> rfl
end Go.Proofs.YtpigpncbjckbcaaGreat
