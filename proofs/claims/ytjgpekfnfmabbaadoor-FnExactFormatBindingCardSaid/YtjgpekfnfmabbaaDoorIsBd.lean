/-
  IsBinding, the model's and the program's.
-/
import Derived.Test.YtjgpekfnfmabbaaDoorBind
import Derived.Test.YtjgpekfnfmabbaaDoorNames
import Derived.Test.YtjgpekfnfmabbaaDoorScSets
import Derived.Test.YtjgpekfnfmabbaaDoorWords
import Derived.Deep.RegionHeld3
import Derived.Deep.RegionLaw
import Derived.Deep.RegionWith
import Derived.Deep.DeepCutAuto
namespace Go.Proofs.YtjgpekfnfmabbaaDoor
open Go.RowKit

/-- How many numbers a kind of binding has. -/
def countI (k : Int) : Int := if k = 1 then 12 else if k = 2 then 14 else if k = 3 then 100000 else if k = 4 then 100000 else 0
namespace Bd
def okN (b : Bd) : Bool := decide (0 ≤ b.n) && decide (b.n < countI b.k)
def isB (b : Bd) : Bool := symB b.t && (isSetI b.s && okN b)
theorem isB_of_er {a b : Bd} (h : er a = er b) : isB a = isB b := by
  obtain ⟨h1, h2, h3, h4⟩ := fields_of_er h
  unfold isB okN; rw [h1, h2, h3, h4]
end Bd

set_option maxHeartbeats 800000 in
theorem count_any (k : Int) (w : World) : Calls Tryd.prog 71 #[.int .i64 k] w fun e w' => e = .returned (.int .i64 (countI k)) ∧ Below w.heap.size w w' := by
  by_cases h1 : k = 1
  · subst h1
    go_enter Tryd.func71, Tryd.ntmps71
    go_wp2_with fail
    refine (iformN_any _).mono ?_
    rintro e w1 ⟨A, c, rfl, _, hb⟩
    have hl : formN.length = 12 := rfl
    rw [hl]
    go_wp2_with fail
    go_ret
    exact ⟨rfl, hb⟩
  · have k1 : (k == 1) = false := by simpa using h1
    by_cases h2 : k = 2
    · subst h2
      go_enter Tryd.func71, Tryd.ntmps71
      go_wp2_with fail
      refine (iprimN_any _).mono ?_
      rintro e w1 ⟨A, c, rfl, _, hb⟩
      have hl : primN.length = 14 := rfl
      rw [hl]
      go_wp2_with fail
      go_ret
      exact ⟨rfl, hb⟩
    · have k2 : (k == 2) = false := by simpa using h2
      by_cases h3 : k = 3
      · subst h3
        go_enter Tryd.func71, Tryd.ntmps71
        go_wp2_with fail
        go_ret
        exact ⟨rfl, Below.refl _ _⟩
      · have k3 : (k == 3) = false := by simpa using h3
        by_cases h4 : k = 4
        · subst h4
          go_enter Tryd.func71, Tryd.ntmps71
          go_wp2_with fail
          go_ret
          exact ⟨rfl, Below.refl _ _⟩
        · have k4 : (k == 4) = false := by simpa using h4
          have hc : countI k = 0 := by unfold countI; rw [if_neg h1, if_neg h2, if_neg h3, if_neg h4]
          have HC := Lib.hid hc
          clear hc h1 h2 h3 h4
          go_enter Tryd.func71, Tryd.ntmps71
          go_wp2_with fail
          go_ret
          exact ⟨ret_int HC.out.symm, Below.refl _ _⟩

set_option maxRecDepth 100000 in
set_option maxHeartbeats 4000000 in
theorem implIsB_any (b : Bd) (B : Nat) (w : World) (hin : b.In w B) (hB : B ≤ w.heap.size) : Calls Tryd.prog 46 #[b.val] w fun e w' => e = .returned (.bool b.isB) ∧ Below w.heap.size w w' := by
  obtain ⟨W1, hW1⟩ : ∃ W1, W1 = w.alloc (.cells #[.string b.t, .slice b.sa b.s.length b.sc, .int .i64 b.k, .int .i64 b.n] 54) := ⟨_, rfl⟩
  have z1 : W1.heap.size = w.heap.size + 1 := by rw [hW1]; simp
  have B1 : Below w.heap.size w W1 := by rw [hW1]; exact (Below.refl _ _).alloc (Nat.le_refl _) _
  have x0 : Bd.Box W1 w.heap.size b := by rw [hW1]; exact Bd.Box.new w b _
  have hi1 := hin.below (B1.mono hB)
  obtain ⟨a0, a1, a2, a3⟩ := x0
  have lt1 : w.heap.size < W1.heap.size := by omega
  have K : Hid (b.isB = (symB b.t && (isSetI b.s && b.okN))) := rfl
  have KN : Hid (b.okN = (decide (0 ≤ b.n) && decide (b.n < countI b.k))) := rfl
  unfold Bd.val
  go_enter Tryd.func46, Tryd.ntmps46
  go_wp2_with fail
  rw [← hW1]
  clear hW1
  go_cut [2] (fun s2 wx => s2 = .bool b.isB ∧ Below w.heap.size w wx)
  case first =>
    cases hA : symB b.t
    · have HA := Lib.hid hA
      clear hA
      first | go_region_law (first | (go_simp; go_at_call 69; refine (implSymbol_any _ _).mono ?_; rintro e w1 ⟨rfl, hb1⟩; have hb1 : Below W1.heap.size W1 w1 := below_undrew hb1; rw [HA.out]; have a0 := (hb1.cell (p := ⟨w.heap.size, 0, none⟩) lt1).trans a0; have a1 := (hb1.cell (p := ⟨w.heap.size, 1, none⟩) lt1).trans a1; have a2 := (hb1.cell (p := ⟨w.heap.size, 2, none⟩) lt1).trans a2; have a3 := (hb1.cell (p := ⟨w.heap.size, 3, none⟩) lt1).trans a3)) | fail
      all_goals (go_wp2_with fail; go_meet; exact ⟨by rw [K.out, HA.out]; rfl, B1.trans (hb1.mono (by omega))⟩)
    · have HA := Lib.hid hA
      clear hA
      cases hS : isSetI b.s
      · have HS := Lib.hid hS
        clear hS
        first | go_region_law (first | (go_simp; go_at_call 69; refine (implSymbol_any _ _).mono ?_; rintro e w1 ⟨rfl, hb1⟩; have hb1 : Below W1.heap.size W1 w1 := below_undrew hb1; rw [HA.out]; have z2 := hb1.size; have hi2 := hi1.below (hb1.mono (show B ≤ W1.heap.size by omega)); have a0 := (hb1.cell (p := ⟨w.heap.size, 0, none⟩) lt1).trans a0; have a1 := (hb1.cell (p := ⟨w.heap.size, 1, none⟩) lt1).trans a1; have a2 := (hb1.cell (p := ⟨w.heap.size, 2, none⟩) lt1).trans a2; have a3 := (hb1.cell (p := ⟨w.heap.size, 3, none⟩) lt1).trans a3) | (go_simp; go_at_call 70; refine (implIsSet_any _ _ _ B _ hi2.2).mono ?_; rintro e w' ⟨rfl, hw⟩; obtain rfl := hw.symm; rw [HS.out])) | fail
        all_goals (go_wp2_with fail; go_meet; exact ⟨by rw [K.out, HA.out, HS.out]; rfl, B1.trans (hb1.mono (by omega))⟩)
      · have HS := Lib.hid hS
        clear hS
        by_cases hn : 0 ≤ b.n
        · have hn1 : decide (0 ≤ b.n) = true := by simp [hn]
          have HN := Lib.hid hn1
          first | go_region_law (first | (go_simp; go_at_call 69; refine (implSymbol_any _ _).mono ?_; rintro e w1 ⟨rfl, hb1⟩; have hb1 : Below W1.heap.size W1 w1 := below_undrew hb1; rw [HA.out]; have z2 := hb1.size; have hi2 := hi1.below (hb1.mono (show B ≤ W1.heap.size by omega)); have a0 := (hb1.cell (p := ⟨w.heap.size, 0, none⟩) lt1).trans a0; have a1 := (hb1.cell (p := ⟨w.heap.size, 1, none⟩) lt1).trans a1; have a2 := (hb1.cell (p := ⟨w.heap.size, 2, none⟩) lt1).trans a2; have a3 := (hb1.cell (p := ⟨w.heap.size, 3, none⟩) lt1).trans a3) | (go_simp; go_at_call 70; refine (implIsSet_any _ _ _ B _ hi2.2).mono ?_; rintro e w' ⟨rfl, hw⟩; obtain rfl := hw.symm; rw [HS.out]) | (go_simp; go_at_call 71; refine (count_any _ _).mono ?_; rintro e w3 ⟨rfl, hb3⟩; have lt2 : w.heap.size < w1.heap.size := (by omega); have a0 := (hb3.cell (p := ⟨w.heap.size, 0, none⟩) lt2).trans a0; have a1 := (hb3.cell (p := ⟨w.heap.size, 1, none⟩) lt2).trans a1; have a2 := (hb3.cell (p := ⟨w.heap.size, 2, none⟩) lt2).trans a2; have a3 := (hb3.cell (p := ⟨w.heap.size, 3, none⟩) lt2).trans a3)) | fail
          all_goals (go_wp2_with fail; go_meet; exact ⟨by rw [K.out, KN.out, HA.out, HS.out, HN.out]; rfl, (B1.trans (hb1.mono (by omega))).trans (hb3.mono (by omega))⟩)
        · have hn1 : decide (0 ≤ b.n) = false := by simpa using hn
          have HN := Lib.hid hn1
          clear hn
          first | go_region_law (first | (go_simp; go_at_call 69; refine (implSymbol_any _ _).mono ?_; rintro e w1 ⟨rfl, hb1⟩; have hb1 : Below W1.heap.size W1 w1 := below_undrew hb1; rw [HA.out]; have z2 := hb1.size; have hi2 := hi1.below (hb1.mono (show B ≤ W1.heap.size by omega)); have a0 := (hb1.cell (p := ⟨w.heap.size, 0, none⟩) lt1).trans a0; have a1 := (hb1.cell (p := ⟨w.heap.size, 1, none⟩) lt1).trans a1; have a2 := (hb1.cell (p := ⟨w.heap.size, 2, none⟩) lt1).trans a2; have a3 := (hb1.cell (p := ⟨w.heap.size, 3, none⟩) lt1).trans a3) | (go_simp; go_at_call 70; refine (implIsSet_any _ _ _ B _ hi2.2).mono ?_; rintro e w' ⟨rfl, hw⟩; obtain rfl := hw.symm; rw [HS.out])) | fail
          all_goals (go_wp2_with fail; go_meet; exact ⟨by rw [K.out, KN.out, HA.out, HS.out, HN.out]; rfl, B1.trans (hb1.mono (by omega))⟩)
  case rest =>
    obtain ⟨rfl, hb⟩ := hcut
    go_wp2_with fail
    go_ret
    exact ⟨rfl, hb⟩

set_option maxRecDepth 100000 in
set_option maxHeartbeats 4000000 in
theorem specIsB_any (b : Bd) (B : Nat) (w : World) (hin : b.In w B) (hB : B ≤ w.heap.size) : Calls Tryd.prog 43 #[b.val] w fun e w' => e = .returned (.bool b.isB) ∧ Below w.heap.size w w' := by
  obtain ⟨W1, hW1⟩ : ∃ W1, W1 = w.alloc (.cells #[.string b.t, .slice b.sa b.s.length b.sc, .int .i64 b.k, .int .i64 b.n] 54) := ⟨_, rfl⟩
  have z1 : W1.heap.size = w.heap.size + 1 := by rw [hW1]; simp
  have B1 : Below w.heap.size w W1 := by rw [hW1]; exact (Below.refl _ _).alloc (Nat.le_refl _) _
  have x0 : Bd.Box W1 w.heap.size b := by rw [hW1]; exact Bd.Box.new w b _
  have hi1 := hin.below (B1.mono hB)
  obtain ⟨a0, a1, a2, a3⟩ := x0
  have lt1 : w.heap.size < W1.heap.size := by omega
  have K : Hid (b.isB = (symB b.t && (isSetI b.s && b.okN))) := rfl
  have KN : Hid (b.okN = (decide (0 ≤ b.n) && decide (b.n < countI b.k))) := rfl
  unfold Bd.val
  have hcI : ∀ q : Int, decide (0 ≤ b.n ∧ b.n ≤ countI b.k - 1) = b.okN := fun _ => by
    unfold Bd.okN
    rw [Bool.eq_iff_iff]
    simp only [decide_eq_true_eq, Bool.and_eq_true]
    omega
  have HcI := Lib.hid hcI
  clear hcI KN
  by_cases h1 : b.k = 1
  · have hk := h1
    clear h1
    have hK : countI b.k = 12 := by unfold countI; simp [hk]
    have HK := Lib.hid hK
    clear hK
    rw [hk] at a2
    rw [hk] at hW1
    rw [hk]
    have HKK := Lib.hid hk
    clear hk
    go_enter Tryd.func43, Tryd.ntmps43
    go_wp2_with fail
    rw [← hW1]
    clear hW1
    refine (sformN_any _).mono ?_
    rintro e w1 ⟨A, c, rfl, _, hb1⟩
    have hl : formN.length = 12 := rfl
    rw [hl]
    have z2 := hb1.size
    have bb := B1.trans (hb1.mono (by omega))
    have hi2 := hin.below (bb.mono hB)
    have lt2 : w.heap.size < w1.heap.size := by omega
    have a0 := (hb1.cell (p := ⟨w.heap.size, 0, none⟩) lt1).trans a0
    have a1 := (hb1.cell (p := ⟨w.heap.size, 1, none⟩) lt1).trans a1
    have a2 := (hb1.cell (p := ⟨w.heap.size, 2, none⟩) lt1).trans a2
    have a3 := (hb1.cell (p := ⟨w.heap.size, 3, none⟩) lt1).trans a3
    clear hb1 hl
    cases hA : symB b.t
    · have HA := Lib.hid hA
      clear hA
      go_wp2_with fail
      refine (specSymbol_any _ _).mono ?_
      rintro e w' ⟨rfl, rfl⟩
      rw [HA.out]
      go_wp2_with fail
      go_ret
      exact ⟨ret_bool (by rw [K.out, HA.out]; rfl), bb⟩
    · have HA := Lib.hid hA
      clear hA
      go_wp2_with fail
      refine (specSymbol_any _ _).mono ?_
      rintro e w' ⟨rfl, rfl⟩
      rw [HA.out]
      go_wp2_with fail
      refine (specIsSet_any _ _ _ B _ hi2.2 (by omega)).mono ?_
      rintro e w5 ⟨rfl, hb5⟩
      have b5 := bb.trans (hb5.mono (by omega))
      have a3 := (hb5.cell (p := ⟨w.heap.size, 3, none⟩) lt2).trans a3
      clear hb5 bb
      cases hS : isSetI b.s
      · have HS := Lib.hid hS
        clear hS
        go_wp2_with fail
        go_ret
        exact ⟨ret_bool (by rw [K.out, HA.out, HS.out]; rfl), b5⟩
      · have HS := Lib.hid hS
        clear hS
        go_wp2_with fail
        refine (l1In_any _ _ _ _).mono ?_
        rintro e w' ⟨rfl, rfl⟩
        go_wp2_with fail
        go_ret
        exact ⟨ret_bool (by rw [K.out, HA.out, HS.out, ← HcI.out 0, HK.out, Bool.eq_iff_iff]; simp only [Bool.true_and, Bool.and_eq_true, decide_eq_true_eq]; omega), b5⟩
  · have k1 : (b.k == 1) = false := by simpa using h1
    by_cases h2 : b.k = 2
    · have hk := h2
      clear h1 h2 k1
      have hK : countI b.k = 14 := by unfold countI; simp [hk]
      have HK := Lib.hid hK
      clear hK
      rw [hk] at a2
      rw [hk] at hW1
      rw [hk]
      have HKK := Lib.hid hk
      clear hk
      go_enter Tryd.func43, Tryd.ntmps43
      go_wp2_with fail
      rw [← hW1]
      clear hW1
      refine (sprimN_any _).mono ?_
      rintro e w1 ⟨A, c, rfl, _, hb1⟩
      have hl : primN.length = 14 := rfl
      rw [hl]
      have z2 := hb1.size
      have bb := B1.trans (hb1.mono (by omega))
      have hi2 := hin.below (bb.mono hB)
      have lt2 : w.heap.size < w1.heap.size := by omega
      have a0 := (hb1.cell (p := ⟨w.heap.size, 0, none⟩) lt1).trans a0
      have a1 := (hb1.cell (p := ⟨w.heap.size, 1, none⟩) lt1).trans a1
      have a2 := (hb1.cell (p := ⟨w.heap.size, 2, none⟩) lt1).trans a2
      have a3 := (hb1.cell (p := ⟨w.heap.size, 3, none⟩) lt1).trans a3
      clear hb1 hl
      cases hA : symB b.t
      · have HA := Lib.hid hA
        clear hA
        go_wp2_with fail
        refine (specSymbol_any _ _).mono ?_
        rintro e w' ⟨rfl, rfl⟩
        rw [HA.out]
        go_wp2_with fail
        go_ret
        exact ⟨ret_bool (by rw [K.out, HA.out]; rfl), bb⟩
      · have HA := Lib.hid hA
        clear hA
        go_wp2_with fail
        refine (specSymbol_any _ _).mono ?_
        rintro e w' ⟨rfl, rfl⟩
        rw [HA.out]
        go_wp2_with fail
        refine (specIsSet_any _ _ _ B _ hi2.2 (by omega)).mono ?_
        rintro e w5 ⟨rfl, hb5⟩
        have b5 := bb.trans (hb5.mono (by omega))
        have a3 := (hb5.cell (p := ⟨w.heap.size, 3, none⟩) lt2).trans a3
        clear hb5 bb
        cases hS : isSetI b.s
        · have HS := Lib.hid hS
          clear hS
          go_wp2_with fail
          go_ret
          exact ⟨ret_bool (by rw [K.out, HA.out, HS.out]; rfl), b5⟩
        · have HS := Lib.hid hS
          clear hS
          go_wp2_with fail
          refine (l1In_any _ _ _ _).mono ?_
          rintro e w' ⟨rfl, rfl⟩
          go_wp2_with fail
          go_ret
          exact ⟨ret_bool (by rw [K.out, HA.out, HS.out, ← HcI.out 0, HK.out, Bool.eq_iff_iff]; simp only [Bool.true_and, Bool.and_eq_true, decide_eq_true_eq]; omega), b5⟩
    · have k2 : (b.k == 2) = false := by simpa using h2
      by_cases h3 : b.k = 3
      · have hk := h3
        clear h1 h2 h3 k1 k2
        have hK : countI b.k = 100000 := by unfold countI; simp [hk]
        have HK := Lib.hid hK
        clear hK
        rw [hk] at a2
        rw [hk] at hW1
        rw [hk]
        have HKK := Lib.hid hk
        clear hk
        go_enter Tryd.func43, Tryd.ntmps43
        go_wp2_with fail
        rw [← hW1]
        clear hW1
        have bb := B1
        have hi2 := hi1
        have lt2 := lt1
        cases hA : symB b.t
        · have HA := Lib.hid hA
          clear hA
          go_wp2_with fail
          refine (specSymbol_any _ _).mono ?_
          rintro e w' ⟨rfl, rfl⟩
          rw [HA.out]
          go_wp2_with fail
          go_ret
          exact ⟨ret_bool (by rw [K.out, HA.out]; rfl), bb⟩
        · have HA := Lib.hid hA
          clear hA
          go_wp2_with fail
          refine (specSymbol_any _ _).mono ?_
          rintro e w' ⟨rfl, rfl⟩
          rw [HA.out]
          go_wp2_with fail
          refine (specIsSet_any _ _ _ B _ hi2.2 (by omega)).mono ?_
          rintro e w5 ⟨rfl, hb5⟩
          have b5 := bb.trans (hb5.mono (by omega))
          have a3 := (hb5.cell (p := ⟨w.heap.size, 3, none⟩) lt2).trans a3
          clear hb5 bb
          cases hS : isSetI b.s
          · have HS := Lib.hid hS
            clear hS
            go_wp2_with fail
            go_ret
            exact ⟨ret_bool (by rw [K.out, HA.out, HS.out]; rfl), b5⟩
          · have HS := Lib.hid hS
            clear hS
            go_wp2_with fail
            refine (l1In_any _ _ _ _).mono ?_
            rintro e w' ⟨rfl, rfl⟩
            go_wp2_with fail
            go_ret
            exact ⟨ret_bool (by rw [K.out, HA.out, HS.out, ← HcI.out 0, HK.out, Bool.eq_iff_iff]; simp only [Bool.true_and, Bool.and_eq_true, decide_eq_true_eq]; omega), b5⟩
      · have k3 : (b.k == 3) = false := by simpa using h3
        by_cases h4 : b.k = 4
        · have hk := h4
          clear h1 h2 h3 h4 k1 k2 k3
          have hK : countI b.k = 100000 := by unfold countI; simp [hk]
          have HK := Lib.hid hK
          clear hK
          rw [hk] at a2
          rw [hk] at hW1
          rw [hk]
          have HKK := Lib.hid hk
          clear hk
          go_enter Tryd.func43, Tryd.ntmps43
          go_wp2_with fail
          rw [← hW1]
          clear hW1
          have bb := B1
          have hi2 := hi1
          have lt2 := lt1
          cases hA : symB b.t
          · have HA := Lib.hid hA
            clear hA
            go_wp2_with fail
            refine (specSymbol_any _ _).mono ?_
            rintro e w' ⟨rfl, rfl⟩
            rw [HA.out]
            go_wp2_with fail
            go_ret
            exact ⟨ret_bool (by rw [K.out, HA.out]; rfl), bb⟩
          · have HA := Lib.hid hA
            clear hA
            go_wp2_with fail
            refine (specSymbol_any _ _).mono ?_
            rintro e w' ⟨rfl, rfl⟩
            rw [HA.out]
            go_wp2_with fail
            refine (specIsSet_any _ _ _ B _ hi2.2 (by omega)).mono ?_
            rintro e w5 ⟨rfl, hb5⟩
            have b5 := bb.trans (hb5.mono (by omega))
            have a3 := (hb5.cell (p := ⟨w.heap.size, 3, none⟩) lt2).trans a3
            clear hb5 bb
            cases hS : isSetI b.s
            · have HS := Lib.hid hS
              clear hS
              go_wp2_with fail
              go_ret
              exact ⟨ret_bool (by rw [K.out, HA.out, HS.out]; rfl), b5⟩
            · have HS := Lib.hid hS
              clear hS
              go_wp2_with fail
              refine (l1In_any _ _ _ _).mono ?_
              rintro e w' ⟨rfl, rfl⟩
              go_wp2_with fail
              go_ret
              exact ⟨ret_bool (by rw [K.out, HA.out, HS.out, ← HcI.out 0, HK.out, Bool.eq_iff_iff]; simp only [Bool.true_and, Bool.and_eq_true, decide_eq_true_eq]; omega), b5⟩
        · have k4 : (b.k == 4) = false := by simpa using h4
          have hK : countI b.k = 0 := by unfold countI; simp [h1, h2, h3, h4]
          have HK := Lib.hid hK
          clear hK h1 h2 h3 h4
          go_enter Tryd.func43, Tryd.ntmps43
          go_wp2_with fail
          rw [← hW1]
          clear hW1
          have bb := B1
          have hi2 := hi1
          have lt2 := lt1
          cases hA : symB b.t
          · have HA := Lib.hid hA
            clear hA
            go_wp2_with fail
            refine (specSymbol_any _ _).mono ?_
            rintro e w' ⟨rfl, rfl⟩
            rw [HA.out]
            go_wp2_with fail
            go_ret
            exact ⟨ret_bool (by rw [K.out, HA.out]; rfl), bb⟩
          · have HA := Lib.hid hA
            clear hA
            go_wp2_with fail
            refine (specSymbol_any _ _).mono ?_
            rintro e w' ⟨rfl, rfl⟩
            rw [HA.out]
            go_wp2_with fail
            refine (specIsSet_any _ _ _ B _ hi2.2 (by omega)).mono ?_
            rintro e w5 ⟨rfl, hb5⟩
            have b5 := bb.trans (hb5.mono (by omega))
            have a3 := (hb5.cell (p := ⟨w.heap.size, 3, none⟩) lt2).trans a3
            clear hb5 bb
            cases hS : isSetI b.s
            · have HS := Lib.hid hS
              clear hS
              go_wp2_with fail
              go_ret
              exact ⟨ret_bool (by rw [K.out, HA.out, HS.out]; rfl), b5⟩
            · have HS := Lib.hid hS
              clear hS
              go_wp2_with fail
              refine (l1In_any _ _ _ _).mono ?_
              rintro e w' ⟨rfl, rfl⟩
              go_wp2_with fail
              go_ret
              exact ⟨ret_bool (by rw [K.out, HA.out, HS.out, ← HcI.out 0, HK.out, Bool.eq_iff_iff]; simp only [Bool.true_and, Bool.and_eq_true, decide_eq_true_eq]; omega), b5⟩
end Go.Proofs.YtjgpekfnfmabbaaDoor
