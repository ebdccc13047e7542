/-
  Symbols and the text of strings, second part.
-/
import Derived.Test.YtiopophoioiafaaSym
import Derived.Laws.RangeAny
namespace Go.Proofs.Ytiopophoioiafaa
open Go.RowKit

theorem symRune_mk (b : UInt8) : symRune b.toNat = (decide (97 ≤ (b.toNat : Int) ∧ (b.toNat : Int) ≤ 122) || (isDig b.toNat || mk11.data.toList.any (· == b))) := by
  have key : ∀ n : Fin 256, symRune n.val = (decide (97 ≤ (n.val : Int) ∧ (n.val : Int) ≤ 122) || (isDig n.val || mk11.data.toList.any (· == UInt8.ofNat n.val))) := by decide +kernel
  have := key ⟨b.toNat, b.toNat_lt⟩
  simpa using this

theorem l1Mark_any (b : UInt8) (w : World) : Calls Try.prog 157 #[.int .u8 b.toNat] w fun e w' => e = .returned (.bool (symRune b.toNat)) ∧ w = w' := by
  have hb0 : (0 : Int) ≤ (b.toNat : Int) := by omega
  have hb1 : (b.toNat : Int) ≤ 255 := by have := b.toNat_lt; omega
  have H := Lib.hid (symRune_mk b)
  have hmz : mk11.size = 11 := rfl
  by_cases hx : 97 ≤ (b.toNat : Int) ∧ (b.toNat : Int) ≤ 122
  · obtain ⟨h4, h5⟩ := hx
    go_enter Try.func157, Try.ntmps157
    go_wp2_with fail
    go_ret
    exact ⟨ret_bool (by rw [H.out]; simp; omega), rfl⟩
  · have Hx : Hid (decide (97 ≤ (b.toNat : Int) ∧ (b.toNat : Int) ≤ 122) = false) := by show _ = _; simpa using hx
    by_cases h4 : 97 ≤ (b.toNat : Int)
    · have h5 : ¬ (b.toNat : Int) ≤ 122 := fun h => hx ⟨h4, h⟩
      clear hx
      go_enter Try.func157, Try.ntmps157
      go_wp2_with fail
      refine (l1Digit_any _ _).mono ?_
      rintro e w1 ⟨rfl, rfl⟩
      cases hd : isDig b.toNat
      rotate_left
      · have Hd := Lib.hid hd
        go_wp2_with fail
        go_ret
        exact ⟨ret_bool (by rw [H.out, Hd.out]; simp), rfl⟩
      have Hd := Lib.hid hd
      clear hd
      go_wp2_with fail
      rw [show (⟨#[33, 63, 42, 60, 62, 61, 47, 43, 45, 46, 95]⟩ : ByteArray) = mk11 from rfl]
      go_loop [4] (fun i => ∃ j : Nat, j ≤ 11 ∧ i = .int .i64 j ∧ Hid ((mk11.data.toList.take j).any (· == b) = false)) (fun i => 11 - (intOf i).toNat)
      case atStart => exact ⟨0, by omega, rfl, by simp [Hid]⟩
      case round =>
        obtain ⟨j, hj, rfl, HE⟩ := hrel
        by_cases hlt : j < 11
        · have hlt' : j < mk11.size := hlt
          have g1 : (0 : Int) ≤ (j : Int) := by omega
          have g2 : (j : Int) < (mk11.size : Int) := by omega
          have hg : mk11.data.toList[j]? = some (mk11[j]'hlt') := by
            rw [List.getElem?_eq_getElem (by exact hlt')]; rfl
          have HT : Hid (mk11.data.toList.take (j + 1) = mk11.data.toList.take j ++ [mk11[j]'hlt']) := by
            show _ = _
            rw [List.take_add_one, hg]; rfl
          clear hg
          by_cases hc : (mk11[j]'hlt') = b
          · have hc1 : (((mk11[j]'hlt').toNat : Int) == (b.toNat : Int)) = true := by rw [hc]; simp
            have HC := Lib.hid hc
            clear hc
            go_wp2_with fail
            go_ret
            refine ⟨ret_bool ?_, rfl⟩
            have h1 : mk11.data.toList.any (· == b) = true := by
              rw [List.any_eq_true]
              exact ⟨mk11[j]'hlt', Array.getElem_mem_toList (xs := mk11.data) hlt', by rw [HC.out]; simp⟩
            rw [H.out, h1]; simp
          · have hc1 : (((mk11[j]'hlt').toNat : Int) == (b.toNat : Int)) = false := by
              simp only [beq_eq_false_iff_ne, ne_eq]
              intro h
              exact hc (UInt8.toNat_inj.1 (by omega))
            have HC : Hid (((mk11[j]'hlt') == b) = false) := by show _ = _; simpa using hc
            clear hc
            go_wp2_with fail
            go_round
            case rel => exact ⟨j + 1, by omega, by go_num, by (show _ = _); rw [HT.out, List.any_append, HE.out]; simp [HC.out]⟩
            case measure => simp [intOf]; omega
        · have hj' : j = 11 := by omega
          subst hj'
          go_wp2_with fail
          go_ret
          refine ⟨ret_bool ?_, rfl⟩
          have h1 : mk11.data.toList.any (· == b) = false := HE.out
          rw [H.out, Hx.out, Hd.out, h1]; rfl
    · clear hx
      go_enter Try.func157, Try.ntmps157
      go_wp2_with fail
      refine (l1Digit_any _ _).mono ?_
      rintro e w1 ⟨rfl, rfl⟩
      cases hd : isDig b.toNat
      rotate_left
      · have Hd := Lib.hid hd
        go_wp2_with fail
        go_ret
        exact ⟨ret_bool (by rw [H.out, Hd.out]; simp), rfl⟩
      have Hd := Lib.hid hd
      clear hd
      go_wp2_with fail
      rw [show (⟨#[33, 63, 42, 60, 62, 61, 47, 43, 45, 46, 95]⟩ : ByteArray) = mk11 from rfl]
      go_loop [4] (fun i => ∃ j : Nat, j ≤ 11 ∧ i = .int .i64 j ∧ Hid ((mk11.data.toList.take j).any (· == b) = false)) (fun i => 11 - (intOf i).toNat)
      case atStart => exact ⟨0, by omega, rfl, by simp [Hid]⟩
      case round =>
        obtain ⟨j, hj, rfl, HE⟩ := hrel
        by_cases hlt : j < 11
        · have hlt' : j < mk11.size := hlt
          have g1 : (0 : Int) ≤ (j : Int) := by omega
          have g2 : (j : Int) < (mk11.size : Int) := by omega
          have hg : mk11.data.toList[j]? = some (mk11[j]'hlt') := by
            rw [List.getElem?_eq_getElem (by exact hlt')]; rfl
          have HT : Hid (mk11.data.toList.take (j + 1) = mk11.data.toList.take j ++ [mk11[j]'hlt']) := by
            show _ = _
            rw [List.take_add_one, hg]; rfl
          clear hg
          by_cases hc : (mk11[j]'hlt') = b
          · have hc1 : (((mk11[j]'hlt').toNat : Int) == (b.toNat : Int)) = true := by rw [hc]; simp
            have HC := Lib.hid hc
            clear hc
            go_wp2_with fail
            go_ret
            refine ⟨ret_bool ?_, rfl⟩
            have h1 : mk11.data.toList.any (· == b) = true := by
              rw [List.any_eq_true]
              exact ⟨mk11[j]'hlt', Array.getElem_mem_toList (xs := mk11.data) hlt', by rw [HC.out]; simp⟩
            rw [H.out, h1]; simp
          · have hc1 : (((mk11[j]'hlt').toNat : Int) == (b.toNat : Int)) = false := by
              simp only [beq_eq_false_iff_ne, ne_eq]
              intro h
              exact hc (UInt8.toNat_inj.1 (by omega))
            have HC : Hid (((mk11[j]'hlt') == b) = false) := by show _ = _; simpa using hc
            clear hc
            go_wp2_with fail
            go_round
            case rel => exact ⟨j + 1, by omega, by go_num, by (show _ = _); rw [HT.out, List.any_append, HE.out]; simp [HC.out]⟩
            case measure => simp [intOf]; omega
        · have hj' : j = 11 := by omega
          subst hj'
          go_wp2_with fail
          go_ret
          refine ⟨ret_bool ?_, rfl⟩
          have h1 : mk11.data.toList.any (· == b) = false := HE.out
          rw [H.out, Hx.out, Hd.out, h1]; rfl

theorem starts_any (s : ByteArray) (w : World) : Calls Try.prog 152 #[.string s] w fun e w' => e = .returned (.bool (stNum s.data.toList)) ∧ w = w' := by
  have key : ∀ l : List UInt8, stNum l = (!(Lib.trimPrefix l [45]).isEmpty && isDig ((Lib.trimPrefix l [45]).headD 0).toNat) := by
    intro l
    cases l with
    | nil => rfl
    | cons c r =>
      by_cases hc : c = 45
      · subst hc
        cases r with
        | nil => rfl
        | cons d t => simp [stNum, Lib.trimPrefix, Lib.hasPrefix, isDig]
      · have h1 : Lib.trimPrefix (c :: r) [45] = c :: r := by simp [Lib.trimPrefix, Lib.hasPrefix]; intro h; exact absurd h.symm hc
        have h2 : ¬ (c.toNat : Int) = 45 := fun h => hc (UInt8.toNat_inj.1 (by simp; omega))
        rw [h1]
        cases r <;> simp [stNum, h2]
  have K := Lib.hid (key s.data.toList)
  clear key
  go_enter Try.func152, Try.ntmps152
  go_wp2_with fail
  refine (Try.strings_TrimPrefix _ _ _).mono ?_
  rintro e w1 ⟨rfl, rfl⟩
  rw [show (⟨#[45]⟩ : ByteArray).data.toList = [45] from rfl]
  generalize Lib.trimPrefix s.data.toList [45] = t at *
  cases t with
  | nil =>
    go_wp2_with fail
    go_ret
    exact ⟨ret_bool (by rw [K.out]; rfl), rfl⟩
  | cons c r =>
    have g1 : (0 : Int) < (r.length : Int) + 1 := by omega
    go_wp2_with fail
    refine (isDigit_any _ _).mono ?_
    rintro e w1 ⟨rfl, rfl⟩
    go_wp2_with fail
    go_ret
    exact ⟨ret_bool (by rw [K.out]; have := c.toNat_lt; show isDig (wrap32 (c.toNat : Int)) = isDig (c.toNat : Int); rw [IntWalk.wrap32_in _ ⟨by omega, by omega⟩]), rfl⟩
end Go.Proofs.Ytiopophoioiafaa
