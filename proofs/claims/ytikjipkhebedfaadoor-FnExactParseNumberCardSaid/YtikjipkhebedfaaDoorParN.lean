/-
  ParseNumber: the model's (written by gen/parn.py).
-/
import Derived.Test.YtikjipkhebedfaaDoorFmtN
import Derived.Test.YtikjipkhebedfaaDoorNum
import Derived.Maps.Own
import Derived.Maps.Keyed
import Derived.Maps.Views
namespace Go.Proofs.YtikjipkhebedfaaDoor
open Go.RowKit Go.Maps Go.WideMaps Go.ChangeMaps

theorem toLn_inj {a b : ByteArray} (h : (a.toList == b.toList) = true) : a = b := by
  have h1 : a.toList = b.toList := by simpa using h
  rw [ByteArray.toList_eq, ByteArray.toList_eq] at h1
  exact ByteArray.ext (Array.ext' h1)
theorem toLn_beq (a b : ByteArray) : (a.toList == b.toList) = decide (a = b) := by
  by_cases h : a = b
  · subst h; simp
  · have : (a.toList == b.toList) = false := by
      cases hq : (a.toList == b.toList)
      · rfl
      · exact absurd (toLn_inj hq) h
    rw [this]; simp [h]

theorem digit_any (c : UInt8) (w : World) : Calls Tryd.prog 53 #[.int .u8 (c.toNat : Int)] w fun e w' => e = .returned (.bool (isD c)) ∧ w' = w := by
  by_cases h1 : 48 ≤ (c.toNat : Int)
  · by_cases h2 : (c.toNat : Int) ≤ 57
    · have HE : Hid (isD c = true) := by show _ = _; unfold isD; simp; omega
      go_enter Tryd.func53, Tryd.ntmps53
      go_wp2_with fail
      go_ret
      refine ⟨?_, rfl⟩
      rw [HE.out]; rfl
    · have HE : Hid (isD c = false) := by show _ = _; unfold isD; simp; omega
      go_enter Tryd.func53, Tryd.ntmps53
      go_wp2_with fail
      go_ret
      refine ⟨?_, rfl⟩
      rw [HE.out]; rfl
  · have HE : Hid (isD c = false) := by show _ = _; unfold isD; simp; omega
    go_enter Tryd.func53, Tryd.ntmps53
    go_wp2_with fail
    go_ret
    refine ⟨?_, rfl⟩
    rw [HE.out]; rfl
theorem drop_get {s : ByteArray} {M : List UInt8} {a j k : Nat} (hM : M = s.data.toList.drop a) (hj : j < M.length) (hk : k = j + a) (h : k < s.size) : M[j] = s[k] := by
  subst hM hk
  rw [List.getElem_drop]
  have e : ∀ (x y : Nat) (hx : x < s.data.toList.length) (hy : y < s.size), x = y → s.data.toList[x] = s[y] := by
    intro x y hx hy exy
    subst exy
    rfl
  exact e _ _ _ _ (Nat.add_comm a j)
theorem all_no {l : List UInt8} {j : Nat} (h : j < l.length) (hd : isD l[j] = false) : l.all isD = false := by
  rw [List.all_eq_false]
  exact ⟨l[j], List.getElem_mem h, by rw [hd]; decide⟩
theorem all_succ {l : List UInt8} {j : Nat} (h : j < l.length) (ha : (l.take j).all isD = true) (hd : isD l[j] = true) : (l.take (j + 1)).all isD = true := by
  rw [List.take_succ_eq_append_getElem h, List.all_append, ha]; simp [hd]

/-- What the model reads once the sign is decided: a is 1 behind a sign, else 0. -/
def ReadsAs (s : ByteArray) (e : Ending) : Prop := e = .returned (.tuple #[.int .i64 (readN s.data.toList), .bool (readB s.data.toList)])
theorem reads_no {s : ByteArray} (h : readB s.data.toList = false) : ReadsAs s (.returned (.tuple #[.int .i64 0, .bool false])) := by
  unfold ReadsAs readN; rw [h]; rfl
theorem reads_yes {s : ByteArray} {n : Int} (h : readB s.data.toList = true) (hn : numOf s.data.toList = n) : ReadsAs s (.returned (.tuple #[.int .i64 n, .bool true])) := by
  unfold ReadsAs readN; rw [h, if_pos rfl, hn]

set_option maxRecDepth 100000 in
set_option maxHeartbeats 4000000 in
theorem specPar0 (s : ByteArray) (hs : s.size ≤ 1048576) (w : World) (hp : 0 < s.size) (h45 : ¬ (s[0].toNat : Int) = 45) (M : List UInt8) (hD : Hid (M = s.data.toList.drop 0)) (hdl : M.length + 0 = s.size) (hM : Hid (magOf s.data.toList = M)) (hN : Hid (numOf s.data.toList = (dval M : Int))) :
    Calls Tryd.prog 19 #[.string s] w fun e w' => ReadsAs s e ∧ Below w.heap.size w w' := by
  have e45 : ((s[0].toNat : Int) == 45) = false := by simpa using h45
  have gp : (0 : Int) < (s.size : Int) := by omega
  have HREAD : Hid (readB s.data.toList = (decide (1 ≤ M.length ∧ M.length ≤ 9) && (M.all isD && (Lib.itoa (numOf s.data.toList) == s.data.toList)))) := by show _ = _; unfold readB; rw [hM.out]
  clear hM h45
  have HDL := Lib.hid hdl
  by_cases hlen : M.length = 0 ∨ 9 < M.length
  · have HNO : Hid (ReadsAs s (.returned (.tuple #[.int .i64 0, .bool false]))) := by
      have e0 : decide (1 ≤ M.length ∧ M.length ≤ 9) = false := by simp; omega
      exact reads_no (by rw [HREAD.out, e0]; rfl)
    rcases hlen with hlen | hlen
    · omega
    · have es2 : ((0 : Int) == (s.size : Int)) = false := by rw [beq_eq_false_iff_ne]; omega
      have es3 : (9 : Int) < (s.size : Int) := by omega
      have es4 : decide ((9 : Int) < (s.size : Int)) = true := by simpa using es3
      clear hlen hdl
      go_enter Tryd.func19, Tryd.ntmps19
      go_wp2_with fail
      go_ret2
      exact ⟨HNO.out, Below.refl _ _⟩
  · have es2 : ((0 : Int) == (s.size : Int)) = false := by rw [beq_eq_false_iff_ne]; omega
    have es3 : ¬ ((9 : Int) < (s.size : Int)) := by omega
    have es4 : decide ((9 : Int) < (s.size : Int)) = false := by simpa using es3
    have hl1 : 1 ≤ M.length := by omega
    have hl9 : M.length ≤ 9 := by omega
    have hl2 : M.length + 0 ≤ s.size := by omega
    have hl3 : s.size ≤ M.length + 0 := by omega
    clear hlen hdl
    go_enter Tryd.func19, Tryd.ntmps19
    go_wp2_with fail
    go_loopw [5, 6] (fun n i wr => ∃ k j : Nat, k ≤ j + 0 ∧ j + 0 ≤ k ∧ j ≤ M.length ∧ i = .int .i64 (k : Int) ∧ n = .int .i64 ((dval (M.take j) : Nat) : Int) ∧ Hid ((M.take j).all isD = true) ∧ dval (M.take j) < 1000000000 ∧ Below w.heap.size w wr) (fun _ i _ => s.size - (intOf i).toNat)
    case atStart => exact ⟨0, 0, by omega, by omega, by omega, rfl, by simp [dval], by simp [Hid], by simp [dval], Below.refl _ _⟩
    case round =>
      obtain ⟨k, j, hk1, hk2, hjl, rfl, rfl, HA, hv, hb⟩ := hrel
      by_cases hlt : j < M.length
      · have gk : k < s.size := by omega
        have gi : (k : Int) < (s.size : Int) := by omega
        have HV := Lib.hid (dval_take hlt)
        have HG : Hid (M[j] = s[k]) := drop_get hD.out hlt (by omega) gk
        cases hd : isD s[k]
        · have HD := Lib.hid hd
          clear hd
          have HNO : Hid (ReadsAs s (.returned (.tuple #[.int .i64 0, .bool false]))) := reads_no (by rw [HREAD.out, all_no hlt (by rw [HG.out]; exact HD.out)]; simp)
          go_wp2_with fail
          refine (digit_any s[k] _).mono ?_
          rintro e w1 ⟨rfl, hw1⟩
          obtain rfl := hw1.symm
          rw [HD.out]
          go_wp2_with fail
          go_ret2
          exact ⟨HNO.out, hb⟩
        · have HD := Lib.hid hd
          have HA2 : Hid ((M.take (j + 1)).all isD = true) := all_succ hlt HA.out (by rw [HG.out]; exact HD.out)
          have hd2 : 48 ≤ s[k].toNat ∧ s[k].toNat ≤ 57 := by unfold isD at hd; simpa using hd
          clear hd
          have hvl : dval (M.take (j + 1)) < 1000000000 := by
            have h1 := dval_lt _ HA2.out
            have h2 : (M.take (j + 1)).length ≤ 9 := by rw [List.length_take]; omega
            have h3 : 10 ^ (M.take (j + 1)).length ≤ 10 ^ 9 := Nat.pow_le_pow_right (by omega) h2
            exact Nat.lt_of_lt_of_le h1 h3
          rw [HV.out, HG.out] at hvl
          have hm : ((s[k].toNat : Int) - 48) % 256 = (s[k].toNat : Int) - 48 := by omega
          go_wp2_with fail
          refine (digit_any s[k] _).mono ?_
          rintro e w1 ⟨rfl, hw1⟩
          obtain rfl := hw1.symm
          rw [HD.out]
          go_wp2_with fail
          refine ⟨⟨k + 1, j + 1, by omega, by omega, by omega, by go_num, ?_, HA2, by rw [HV.out, HG.out]; exact hvl, hb⟩, by simp [intOf]; omega⟩
          rw [HV.out, HG.out]
          congr 1
          omega
      · have ht : M.take j = M := List.take_of_length_le (by omega)
        rw [ht] at hv
        have HT := Lib.hid ht
        have HAL : Hid (M.all isD = true) := by have := HA.out; rwa [ht] at this
        have gi : ¬ ((k : Int) < (s.size : Int)) := by omega
        clear ht HA
        rw [HT.out]
        obtain ⟨V, hV⟩ : ∃ V, V = dval M := ⟨_, rfl⟩
        rw [← hV] at hv ⊢
        have HVV := Lib.hid hV
        clear hV
        have hf := specFmtN_any ((V : Int)) (by omega) (by omega) wr
        obtain ⟨S, hS⟩ : ∃ S : ByteArray, S = ⟨(Lib.itoa ((V : Int))).toArray⟩ := ⟨_, rfl⟩
        rw [← hS] at hf
        have HS := Lib.hid hS
        clear hS
        have HB : Hid (readB s.data.toList = decide (S = s)) := by
          show _ = _
          have e1 : decide (1 ≤ M.length ∧ M.length ≤ 9) = true := decide_eq_true ⟨hl1, hl9⟩
          rw [HREAD.out, HAL.out, e1, hN.out, ← HVV.out, Bool.true_and, Bool.true_and]
          rw [Bool.eq_iff_iff]
          simp only [beq_iff_eq, decide_eq_true_eq]
          constructor
          · intro h; rw [HS.out, h]
          · intro h; rw [← h, HS.out]
        have HNV : Hid (numOf s.data.toList = (V : Int)) := by show _ = _; rw [hN.out, HVV.out]
        by_cases hq : S = s
        · have hne : (S.toList != s.toList) = false := by rw [hq]; simp
          have hne2 : (S.toList == s.toList) = true := by rw [hq]; simp
          have HY : Hid (ReadsAs s (.returned (.tuple #[.int .i64 ((V : Int)), .bool true]))) := reads_yes (by rw [HB.out, hq]; simp) HNV.out
          clear hq
          go_wp2_with fail
          refine hf.mono ?_
          rintro e w1 ⟨rfl, hb1⟩
          have hb2 := hb.trans (hb1.mono hb.size)
          clear hf
          go_wp2_with fail
          go_ret2
          exact ⟨HY.out, hb2⟩
        · have hne : (S.toList != s.toList) = true := by rw [bne, toLn_beq]; simpa using hq
          have hne2 : (S.toList == s.toList) = false := by rw [toLn_beq]; simpa using hq
          have HY : Hid (ReadsAs s (.returned (.tuple #[.int .i64 0, .bool false]))) := reads_no (by rw [HB.out]; simpa using hq)
          clear hq
          go_wp2_with fail
          refine hf.mono ?_
          rintro e w1 ⟨rfl, hb1⟩
          have hb2 := hb.trans (hb1.mono hb.size)
          clear hf
          go_wp2_with fail
          go_ret2
          exact ⟨HY.out, hb2⟩

set_option maxRecDepth 100000 in
set_option maxHeartbeats 4000000 in
theorem specPar1 (s : ByteArray) (hs : s.size ≤ 1048576) (w : World) (hp : 0 < s.size) (h45 : (s[0].toNat : Int) = 45) (M : List UInt8) (hD : Hid (M = s.data.toList.drop 1)) (hdl : M.length + 1 = s.size) (hM : Hid (magOf s.data.toList = M)) (hN : Hid (numOf s.data.toList = -(dval M : Int))) :
    Calls Tryd.prog 19 #[.string s] w fun e w' => ReadsAs s e ∧ Below w.heap.size w w' := by
  have e45 : ((s[0].toNat : Int) == 45) = true := by simp [h45]
  have gp : (0 : Int) < (s.size : Int) := by omega
  have HREAD : Hid (readB s.data.toList = (decide (1 ≤ M.length ∧ M.length ≤ 9) && (M.all isD && (Lib.itoa (numOf s.data.toList) == s.data.toList)))) := by show _ = _; unfold readB; rw [hM.out]
  clear hM h45
  have HDL := Lib.hid hdl
  by_cases hlen : M.length = 0 ∨ 9 < M.length
  · have HNO : Hid (ReadsAs s (.returned (.tuple #[.int .i64 0, .bool false]))) := by
      have e0 : decide (1 ≤ M.length ∧ M.length ≤ 9) = false := by simp; omega
      exact reads_no (by rw [HREAD.out, e0]; rfl)
    rcases hlen with hlen | hlen
    · have es2 : ((1 : Int) == (s.size : Int)) = true := by rw [beq_iff_eq]; omega
      clear hlen hdl
      go_enter Tryd.func19, Tryd.ntmps19
      go_wp2_with fail
      go_ret2
      exact ⟨HNO.out, Below.refl _ _⟩
    · have es2 : ((1 : Int) == (s.size : Int)) = false := by rw [beq_eq_false_iff_ne]; omega
      have es3 : 9 < (s.size : Int) - 1 := by omega
      have es4 : decide (9 < (s.size : Int) - 1) = true := by simpa using es3
      clear hlen hdl
      go_enter Tryd.func19, Tryd.ntmps19
      go_wp2_with fail
      go_ret2
      exact ⟨HNO.out, Below.refl _ _⟩
  · have es2 : ((1 : Int) == (s.size : Int)) = false := by rw [beq_eq_false_iff_ne]; omega
    have es3 : ¬ (9 < (s.size : Int) - 1) := by omega
    have es4 : decide (9 < (s.size : Int) - 1) = false := by simpa using es3
    have hl1 : 1 ≤ M.length := by omega
    have hl9 : M.length ≤ 9 := by omega
    have hl2 : M.length + 1 ≤ s.size := by omega
    have hl3 : s.size ≤ M.length + 1 := by omega
    clear hlen hdl
    go_enter Tryd.func19, Tryd.ntmps19
    go_wp2_with fail
    go_loopw [5, 6] (fun n i wr => ∃ k j : Nat, k ≤ j + 1 ∧ j + 1 ≤ k ∧ j ≤ M.length ∧ i = .int .i64 (k : Int) ∧ n = .int .i64 ((dval (M.take j) : Nat) : Int) ∧ Hid ((M.take j).all isD = true) ∧ dval (M.take j) < 1000000000 ∧ Below w.heap.size w wr) (fun _ i _ => s.size - (intOf i).toNat)
    case atStart => exact ⟨1, 0, by omega, by omega, by omega, rfl, by simp [dval], by simp [Hid], by simp [dval], Below.refl _ _⟩
    case round =>
      obtain ⟨k, j, hk1, hk2, hjl, rfl, rfl, HA, hv, hb⟩ := hrel
      by_cases hlt : j < M.length
      · have gk : k < s.size := by omega
        have gi : (k : Int) < (s.size : Int) := by omega
        have HV := Lib.hid (dval_take hlt)
        have HG : Hid (M[j] = s[k]) := drop_get hD.out hlt (by omega) gk
        cases hd : isD s[k]
        · have HD := Lib.hid hd
          clear hd
          have HNO : Hid (ReadsAs s (.returned (.tuple #[.int .i64 0, .bool false]))) := reads_no (by rw [HREAD.out, all_no hlt (by rw [HG.out]; exact HD.out)]; simp)
          go_wp2_with fail
          refine (digit_any s[k] _).mono ?_
          rintro e w1 ⟨rfl, hw1⟩
          obtain rfl := hw1.symm
          rw [HD.out]
          go_wp2_with fail
          go_ret2
          exact ⟨HNO.out, hb⟩
        · have HD := Lib.hid hd
          have HA2 : Hid ((M.take (j + 1)).all isD = true) := all_succ hlt HA.out (by rw [HG.out]; exact HD.out)
          have hd2 : 48 ≤ s[k].toNat ∧ s[k].toNat ≤ 57 := by unfold isD at hd; simpa using hd
          clear hd
          have hvl : dval (M.take (j + 1)) < 1000000000 := by
            have h1 := dval_lt _ HA2.out
            have h2 : (M.take (j + 1)).length ≤ 9 := by rw [List.length_take]; omega
            have h3 : 10 ^ (M.take (j + 1)).length ≤ 10 ^ 9 := Nat.pow_le_pow_right (by omega) h2
            exact Nat.lt_of_lt_of_le h1 h3
          rw [HV.out, HG.out] at hvl
          have hm : ((s[k].toNat : Int) - 48) % 256 = (s[k].toNat : Int) - 48 := by omega
          go_wp2_with fail
          refine (digit_any s[k] _).mono ?_
          rintro e w1 ⟨rfl, hw1⟩
          obtain rfl := hw1.symm
          rw [HD.out]
          go_wp2_with fail
          refine ⟨⟨k + 1, j + 1, by omega, by omega, by omega, by go_num, ?_, HA2, by rw [HV.out, HG.out]; exact hvl, hb⟩, by simp [intOf]; omega⟩
          rw [HV.out, HG.out]
          congr 1
          omega
      · have ht : M.take j = M := List.take_of_length_le (by omega)
        rw [ht] at hv
        have HT := Lib.hid ht
        have HAL : Hid (M.all isD = true) := by have := HA.out; rwa [ht] at this
        have gi : ¬ ((k : Int) < (s.size : Int)) := by omega
        clear ht HA
        rw [HT.out]
        obtain ⟨V, hV⟩ : ∃ V, V = dval M := ⟨_, rfl⟩
        rw [← hV] at hv ⊢
        have HVV := Lib.hid hV
        clear hV
        have hf := specFmtN_any (-(V : Int)) (by omega) (by omega) wr
        obtain ⟨S, hS⟩ : ∃ S : ByteArray, S = ⟨(Lib.itoa (-(V : Int))).toArray⟩ := ⟨_, rfl⟩
        rw [← hS] at hf
        have HS := Lib.hid hS
        clear hS
        have HB : Hid (readB s.data.toList = decide (S = s)) := by
          show _ = _
          have e1 : decide (1 ≤ M.length ∧ M.length ≤ 9) = true := decide_eq_true ⟨hl1, hl9⟩
          rw [HREAD.out, HAL.out, e1, hN.out, ← HVV.out, Bool.true_and, Bool.true_and]
          rw [Bool.eq_iff_iff]
          simp only [beq_iff_eq, decide_eq_true_eq]
          constructor
          · intro h; rw [HS.out, h]
          · intro h; rw [← h, HS.out]
        have HNV : Hid (numOf s.data.toList = -(V : Int)) := by show _ = _; rw [hN.out, HVV.out]
        by_cases hq : S = s
        · have hne : (S.toList != s.toList) = false := by rw [hq]; simp
          have hne2 : (S.toList == s.toList) = true := by rw [hq]; simp
          have HY : Hid (ReadsAs s (.returned (.tuple #[.int .i64 (-(V : Int)), .bool true]))) := reads_yes (by rw [HB.out, hq]; simp) HNV.out
          clear hq
          go_wp2_with fail
          refine hf.mono ?_
          rintro e w1 ⟨rfl, hb1⟩
          have hb2 := hb.trans (hb1.mono hb.size)
          clear hf
          go_wp2_with fail
          go_ret2
          exact ⟨HY.out, hb2⟩
        · have hne : (S.toList != s.toList) = true := by rw [bne, toLn_beq]; simpa using hq
          have hne2 : (S.toList == s.toList) = false := by rw [toLn_beq]; simpa using hq
          have HY : Hid (ReadsAs s (.returned (.tuple #[.int .i64 0, .bool false]))) := reads_no (by rw [HB.out]; simpa using hq)
          clear hq
          go_wp2_with fail
          refine hf.mono ?_
          rintro e w1 ⟨rfl, hb1⟩
          have hb2 := hb.trans (hb1.mono hb.size)
          clear hf
          go_wp2_with fail
          go_ret2
          exact ⟨HY.out, hb2⟩

theorem list_cons {s : ByteArray} (hp : 0 < s.size) : s.data.toList = s[0] :: s.data.toList.drop 1 := by
  have hl : s.data.toList.length = s.size := Array.length_toList
  have h0 : 0 < s.data.toList.length := by omega
  have := List.drop_eq_getElem_cons h0
  rw [List.drop_zero] at this
  exact this
set_option maxRecDepth 100000 in
set_option maxHeartbeats 1000000 in
theorem specPar_any (s : ByteArray) (hs : s.size ≤ 1048576) (w : World) : Calls Tryd.prog 19 #[.string s] w fun e w' => ReadsAs s e ∧ Below w.heap.size w w' := by
  have hl : s.data.toList.length = s.size := Array.length_toList
  by_cases hz : s.size = 0
  · have hnil : s.data.toList = [] := List.length_eq_zero_iff.1 (by omega)
    have HNO : Hid (ReadsAs s (.returned (.tuple #[.int .i64 0, .bool false]))) := reads_no (by rw [hnil]; rfl)
    have g1 : ¬ ((0 : Int) < (s.size : Int)) := by omega
    have g2 : ((0 : Int) == (s.size : Int)) = true := by rw [beq_iff_eq]; omega
    clear hnil hl hz
    go_enter Tryd.func19, Tryd.ntmps19
    go_wp2_with fail
    go_ret2
    exact ⟨HNO.out, Below.refl _ _⟩
  · have hp : 0 < s.size := by omega
    have hc := list_cons hp
    by_cases h45 : (s[0].toNat : Int) = 45
    · have e0 : s[0] = 45 := UInt8.toNat_inj.1 (by have : (45 : UInt8).toNat = 45 := rfl; omega)
      have hh : s.data.toList.head? = some 45 := by rw [hc, e0]; rfl
      exact specPar1 s hs w hp h45 (s.data.toList.drop 1) rfl (by rw [List.length_drop]; omega) (show magOf _ = _ by unfold magOf; rw [if_pos hh]; simp) (show numOf _ = _ by unfold numOf; rw [if_pos hh]; simp)
    · have hh : ¬ s.data.toList.head? = some 45 := by
        rw [hc]
        intro h
        simp only [List.head?_cons, Option.some.injEq] at h
        rw [h] at h45
        exact h45 rfl
      exact specPar0 s hs w hp h45 s.data.toList (show _ = _ by simp) (by omega) (show magOf _ = _ by unfold magOf; rw [if_neg hh]) (show numOf _ = _ by unfold numOf; rw [if_neg hh])
end Go.Proofs.YtikjipkhebedfaaDoor
