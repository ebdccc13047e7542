/-
  Sets of scopes: the model's and the program's IsScopeSet; what is in a list.
-/
import Derived.Test.YtknplopghgchaaaScope
import Derived.Deep.RegionLaw
namespace Go.Proofs.Ytknplopghgchaaa
open Go.RowKit

set_option maxHeartbeats 800000 in
theorem specIsSet_any (A : Option Addr) (c : Nat) (l : List Int) (B : Nat) (w : World) (hin : IIn w B A c l) (hB : B ≤ w.heap.size) :
    Calls Try.prog 33 #[.slice A l.length c] w fun e w' => e = .returned (.bool (isSetI l)) ∧ Below w.heap.size w w' := by
  have hcap := hin.cap
  go_enter Try.func33, Try.ntmps33
  go_wp2_with fail
  go_loopw [7] (fun i wr => ∃ j : Nat, j ≤ l.length ∧ i = .int .i64 j ∧ Hid (isSetI l = setFrom (prevI l j) (l.drop j)) ∧ 0 ≤ prevI l j ∧ Below w.heap.size w wr) (fun i _ => l.length - (intOf i).toNat)
  case atStart => exact ⟨0, Nat.zero_le _, rfl, by simp [Hid, isSetI, prevI], by simp [prevI], Below.refl _ _⟩
  case round =>
    obtain ⟨j, hj, rfl, HE, hp, hb⟩ := hrel
    have hs2 := hb.size
    by_cases hlt : j < l.length
    · have hinr := hin.below (hb.mono hB)
      obtain ⟨b, o, rfl, hblk, c0⟩ := hinr.at_ hlt
      have HD : Hid (isSetI l = (decide (prevI l j < l[j]) && (decide (l[j] ≤ 99999) && setFrom l[j] (l.drop (j + 1))))) := by
        show _ = _
        rw [HE.out, List.drop_eq_getElem_cons hlt]; rfl
      have HN : Hid (prevI l (j + 1) = l[j]) := by show l.getD j 0 = _; simp [hlt]
      by_cases hk : kindI l[j] = 0
      · have Hk := Lib.hid hk
        clear hk
        have HF : Hid (isSetI l = false) := by
          show _ = _
          have := kindI_zero.1 Hk.out
          rw [HD.out]
          by_cases h1 : prevI l j < l[j]
          · have h2 : ¬ l[j] ≤ 99999 := by omega
            simp [h2]
          · simp [h1]
        go_wp2_with fail
        refine (specKind_any _ _).mono ?_
        rintro e w1 ⟨rfl, hb1⟩
        rw [Hk.out]
        go_wp2_with fail
        go_ret
        exact ⟨ret_bool HF.out.symm, hb.trans (hb1.mono hs2)⟩
      · have hr : 1 ≤ l[j] ∧ l[j] ≤ 99999 := by
          have := mt kindI_zero.2 hk
          omega
        obtain ⟨hr1, hr2⟩ := hr
        have hk1 : (kindI l[j] == 0) = false := by simpa using hk
        clear hk
        by_cases hj0 : j = 0
        · have gz : ¬ (0 : Int) < (j : Int) := by omega
          have h1 : prevI l j < l[j] := by
            have : prevI l j = 0 := by rw [hj0]; rfl
            omega
          subst hj0
          have c1 : wr.cell? ⟨b, o, none⟩ = some (.int .i64 l[0]) := by simpa using c0
          go_wp2_with fail
          refine (specKind_any _ _).mono ?_
          rintro e w1 ⟨rfl, hb1⟩
          go_wp2_with fail
          have hR : isSetI l = setFrom (prevI l (0 + 1)) (l.drop (0 + 1)) := by
            rw [HN.out, HD.out]
            simp [h1, hr2]
          have hR2 : 0 ≤ prevI l (0 + 1) := by rw [HN.out]; omega
          exact ⟨⟨1, by omega, rfl, hR, hR2, hb.trans (hb1.mono hs2)⟩, by simp [intOf]; omega⟩
        · obtain ⟨j, rfl⟩ : ∃ i, j = i + 1 := ⟨j - 1, by omega⟩
          have hlt' : j < l.length := by omega
          have HP : Hid (prevI l (j + 1) = l[j]) := by show l.getD j 0 = _; simp [hlt']
          obtain ⟨b', o', e', hblk', c0'⟩ := hinr.at_ hlt'
          obtain ⟨rfl, rfl, _⟩ := Addr.mk.inj (Option.some.inj e')
          have g1 : ¬ (((j + 1 : Nat) : Int) - 1 < 0) := by omega
          have g2 : ((j + 1 : Nat) : Int) - 1 < (l.length : Int) := by omega
          have gj : (((j + 1 : Nat) : Int) - 1) = (j : Int) := by omega
          have gz : (0 : Int) < ((j + 1 : Nat) : Int) := by omega
          by_cases hle : l[j + 1] ≤ l[j]
          · have HF : Hid (isSetI l = false) := by
              show _ = _
              rw [HD.out, HP.out]
              have : ¬ l[j] < l[j + 1] := by omega
              simp [this]
            go_wp2_with fail
            refine (specKind_any _ _).mono ?_
            rintro e w1 ⟨rfl, hb1⟩
            have c1 := (hb1.cell (p := ⟨b, o + j, none⟩) (show b < wr.heap.size by omega)).trans c0'
            go_wp2_with fail
            go_ret
            exact ⟨ret_bool HF.out.symm, hb.trans (hb1.mono hs2)⟩
          · have hle' : l[j] < l[j + 1] := by omega
            go_wp2_with fail
            refine (specKind_any _ _).mono ?_
            rintro e w1 ⟨rfl, hb1⟩
            have c1 := (hb1.cell (p := ⟨b, o + j, none⟩) (show b < wr.heap.size by omega)).trans c0'
            go_wp2_with fail
            refine ⟨⟨j + 1 + 1, by omega, by go_num, ?_, by rw [HN.out]; omega, hb.trans (hb1.mono hs2)⟩, by simp [intOf]; omega⟩
            show _ = _
            rw [HN.out, HD.out, HP.out]
            simp [hle', hr2]
    · have hj' : j = l.length := by omega
      subst hj'
      have HF : Hid (isSetI l = true) := by
        show _ = _
        rw [HE.out, List.drop_length]; rfl
      go_wp2_with fail
      go_ret
      exact ⟨ret_bool HF.out.symm, hb⟩

set_option maxHeartbeats 800000 in
theorem implIsSet_any (A : Option Addr) (c : Nat) (l : List Int) (B : Nat) (w : World) (hin : IIn w B A c l) :
    Calls Try.prog 38 #[.slice A l.length c] w fun e w' => e = .returned (.bool (isSetI l)) ∧ w' = w := by
  have hcap := hin.cap
  go_enter Try.func38, Try.ntmps38
  go_wp2_with fail
  go_loopw [3, 8] (fun p i wr => ∃ (j : Nat) (pr : Int), j ≤ l.length ∧ i = .int .i64 j ∧ p = .int .i64 pr ∧ Hid (isSetI l = setFrom pr (l.drop j)) ∧ 0 ≤ pr ∧ wr = w) (fun _ i _ => l.length - (intOf i).toNat)
  case atStart => exact ⟨0, 0, Nat.zero_le _, rfl, rfl, by simp [Hid, isSetI], by omega, rfl⟩
  case round =>
    obtain ⟨j, pr, hj, rfl, rfl, HE, hp, rfl⟩ := hrel
    by_cases hlt : j < l.length
    · obtain ⟨b, o, rfl, hblk, c0⟩ := hin.at_ hlt
      have HD : Hid (isSetI l = (decide (pr < l[j]) && (decide (l[j] ≤ 99999) && setFrom l[j] (l.drop (j + 1))))) := by
        show _ = _
        rw [HE.out, List.drop_eq_getElem_cons hlt]; rfl
      by_cases hle : l[j] ≤ pr
      · have HF : Hid (isSetI l = false) := by
          show _ = _
          have : ¬ pr < l[j] := by omega
          rw [HD.out]
          simp [this]
        go_wp2_with fail
        go_ret
        exact ⟨ret_bool HF.out.symm, rfl⟩
      · have hle' : pr < l[j] := by omega
        have h1 : 1 ≤ l[j] := by omega
        by_cases h2 : l[j] ≤ 99999
        · have hq : (decide (1 ≤ l[j]) && decide (l[j] ≤ 99999)) = true := by simp [h1, h2]
          go_wp2_with (go_at_call 105; refine (implIsScope_any _ _).mono ?_; rintro e' w' ⟨rfl, rfl⟩; rw [hq])
          refine ⟨⟨j + 1, l[j], by omega, by go_num, rfl, ?_, by omega, by first | rfl | trivial⟩, by simp [intOf]; omega⟩
          show _ = _
          rw [HD.out]
          simp [hle', h2]
        · have hq : (decide (1 ≤ l[j]) && decide (l[j] ≤ 99999)) = false := by simp [h2]
          have HF : Hid (isSetI l = false) := by
            show _ = _
            rw [HD.out]
            simp [h2]
          go_wp2_with (go_at_call 105; refine (implIsScope_any _ _).mono ?_; rintro e' w' ⟨rfl, rfl⟩; rw [hq])
          go_ret
          exact ⟨ret_bool HF.out.symm, rfl⟩
    · have hj' : j = l.length := by omega
      subst hj'
      have HF : Hid (isSetI l = true) := by
        show _ = _
        rw [HE.out, List.drop_length]; rfl
      go_wp2_with fail
      go_ret
      exact ⟨ret_bool HF.out.symm, rfl⟩

theorem implIsSetB_any (A : Option Addr) (c : Nat) (l : List Int) (B : Nat) (w : World) (hin : IIn w B A c l) :
    Calls Try.prog 38 #[.slice A l.length c] w fun e w' => e = .returned (.bool (isSetI l)) ∧ Below w.heap.size w w' :=
  (implIsSet_any A c l B w hin).mono fun e w' ⟨h1, h2⟩ => ⟨h1, by rw [h2]; exact Below.refl _ _⟩
theorem contains_step {l : List Int} {j : Nat} (h : j < l.length) (x : Int) : (l.drop j).contains x = (x == l[j] || (l.drop (j + 1)).contains x) := by
  rw [List.drop_eq_getElem_cons h, List.contains_cons]

set_option maxHeartbeats 800000 in
theorem specHas_any (A : Option Addr) (c : Nat) (l : List Int) (n : Int) (B : Nat) (w : World) (hin : IIn w B A c l) :
    Calls Try.prog 55 #[.slice A l.length c, .int .i64 n] w fun e w' => e = .returned (.bool (l.contains n)) ∧ w' = w := by
  have hcap := hin.cap
  go_enter Try.func55, Try.ntmps55
  go_wp2_with fail
  go_loopw [9] (fun i wr => ∃ j : Nat, j ≤ l.length ∧ i = .int .i64 j ∧ Hid (l.contains n = (l.drop j).contains n) ∧ wr = w) (fun i _ => l.length - (intOf i).toNat)
  case atStart => exact ⟨0, Nat.zero_le _, rfl, by simp [Hid], rfl⟩
  case round =>
    obtain ⟨j, hj, rfl, HE, rfl⟩ := hrel
    by_cases hlt : j < l.length
    · obtain ⟨b, o, rfl, hblk, c0⟩ := hin.at_ hlt
      have HD : Hid (l.contains n = (n == l[j] || (l.drop (j + 1)).contains n)) := by
        show _ = _
        rw [HE.out, contains_step hlt]
      by_cases hq : l[j] = n
      · have hq1 : (l[j] == n) = true := by simpa using hq
        have HF : Hid (l.contains n = true) := by
          show _ = _
          rw [HD.out]; simp [hq]
        clear hq
        go_wp2_with fail
        go_ret
        exact ⟨ret_bool HF.out.symm, rfl⟩
      · have hq1 : (l[j] == n) = false := by simpa using hq
        have HF : Hid (l.contains n = (l.drop (j + 1)).contains n) := by
          show _ = _
          have : (n == l[j]) = false := by simpa using fun e => hq e.symm
          rw [HD.out, this]; rfl
        clear hq
        go_wp2_with fail
        exact ⟨⟨j + 1, by omega, by go_num, HF, by first | rfl | trivial⟩, by simp [intOf]; omega⟩
    · have hj' : j = l.length := by omega
      subst hj'
      have HF : Hid (l.contains n = false) := by
        show _ = _
        rw [HE.out, List.drop_length]; rfl
      go_wp2_with fail
      go_ret
      exact ⟨ret_bool HF.out.symm, rfl⟩
end Go.Proofs.Ytknplopghgchaaa
