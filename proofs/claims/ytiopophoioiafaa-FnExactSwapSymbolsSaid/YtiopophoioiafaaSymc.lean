/-
  Symbols and the text of strings, third part.
-/
import Derived.Test.YtiopophoioiafaaSymb
namespace Go.Proofs.Ytiopophoioiafaa
open Go.RowKit

theorem l1In_any (x a b : Int) (w : World) : Calls Try.prog 126 #[.int .i64 x, .int .i64 a, .int .i64 b] w fun e w' => e = .returned (.bool (decide (a ≤ x ∧ x ≤ b))) ∧ w = w' := by
  by_cases h1 : a ≤ x
  · by_cases h2 : x ≤ b
    · go_enter Try.func126, Try.ntmps126
      go_wp2_with fail
      go_ret
      exact ⟨ret_bool (by simp; omega), rfl⟩
    · go_enter Try.func126, Try.ntmps126
      go_wp2_with fail
      go_ret
      exact ⟨ret_bool (by simp; omega), rfl⟩
  · go_enter Try.func126, Try.ntmps126
    go_wp2_with fail
    go_ret
    exact ⟨ret_bool (by simp; omega), rfl⟩
theorem isNumber_any (x : Int) (w : World) : Calls Try.prog 197 #[.int .i64 x] w fun e w' => e = .returned (.bool (decide (-999999999 ≤ x ∧ x ≤ 999999999))) ∧ w = w' := by
  by_cases h1 : -999999999 ≤ x
  · by_cases h2 : x ≤ 999999999
    · go_enter Try.func197, Try.ntmps197
      go_wp2_with fail
      go_ret
      exact ⟨ret_bool (by simp; omega), rfl⟩
    · go_enter Try.func197, Try.ntmps197
      go_wp2_with fail
      go_ret
      exact ⟨ret_bool (by simp; omega), rfl⟩
  · go_enter Try.func197, Try.ntmps197
    go_wp2_with fail
    go_ret
    exact ⟨ret_bool (by simp; omega), rfl⟩

theorem all_take_succ (s : ByteArray) (p : UInt8 → Bool) (j : Nat) (h : j < s.size) : (s.data.toList.take (j + 1)).all p = ((s.data.toList.take j).all p && p (s[j]'h)) := by
  have hg : s.data.toList[j]? = some (s[j]'h) := by rw [List.getElem?_eq_getElem (by exact h)]; rfl
  rw [List.take_add_one, hg]
  simp
theorem all_false_of (s : ByteArray) (p : UInt8 → Bool) (j : Nat) (h : j < s.size) (hp : p (s[j]'h) = false) : s.data.toList.all p = false := by
  rw [List.all_eq_false]
  exact ⟨s[j]'h, Array.getElem_mem_toList (xs := s.data) h, by simpa using hp⟩
theorem len_size (s : ByteArray) : s.data.toList.length = s.size := by simp

theorem isEmpty_pos (s : ByteArray) (h : s.size ≠ 0) : s.toList.isEmpty = false := by
  rw [ByteArray.toList_eq]
  cases hl : s.data.toList with
  | nil => have := len_size s; rw [hl] at this; simp at this; omega
  | cons _ _ => rfl
theorem isEmpty_zero (s : ByteArray) (h : s.size = 0) : s.toList.isEmpty = true := by
  rw [ByteArray.toList_eq]
  have := len_size s
  rw [h] at this
  rw [List.eq_nil_of_length_eq_zero this]; rfl

set_option maxRecDepth 100000 in
set_option maxHeartbeats 1000000 in
theorem implSymbol_any (s : ByteArray) (w : World) : Calls Try.prog 88 #[.string s] w fun e w' => e = .returned (.bool (symB s)) ∧ Below w.heap.size w w' := by
  have K : Hid (symB s = (decide (1 ≤ s.size ∧ s.size ≤ 16) && (!stNum s.data.toList && s.data.toList.all fun c => symRune c.toNat))) := by
    show _ = _
    rw [symB, symL, len_size]
  by_cases h0 : s.size = 0
  · have he := isEmpty_zero s h0
    have H0 := Lib.hid h0
    clear h0
    go_enter Try.func88, Try.ntmps88
    go_wp2_with fail
    go_ret
    exact ⟨ret_bool (by rw [K.out, H0.out]; rfl), Below.refl _ _⟩
  · have he := isEmpty_pos s h0
    by_cases h1 : s.size ≤ 16
    · have h2 : ¬ (16 : Int) < (s.size : Int) := by omega
      cases hst : stNum s.data.toList
      · have Hst := Lib.hid hst
        go_enter Try.func88, Try.ntmps88
        go_wp2_with fail
        refine (starts_any _ _).mono ?_
        rintro e w1 ⟨rfl, rfl⟩
        rw [Hst.out]
        clear hst
        go_wp2_with fail
        go_loopw [] (fun w' => ∃ pos : Nat, pos ≤ s.size ∧ Hid ((s.data.toList.take pos).all (fun c => symRune c.toNat) = true) ∧ w' = w.iter s pos) (fun w' => s.size - w'.iterPos w.heap.size)
        case atStart => exact ⟨0, Nat.zero_le _, by simp [Hid], rfl⟩
        case round =>
          obtain ⟨pos, hpos, HE, rfl⟩ := hrel
          by_cases hp : pos < s.size
          · have hnx : ∀ ty, (Instr.next (.pointer (some ⟨w.heap.size, 0, none⟩)) true ty).run Try.prog (w.iter s pos) = _ := fun ty => run_next_any w s pos ty hp
            have HT := Lib.hid (all_take_succ s (fun c => symRune c.toNat) pos hp)
            by_cases ha : (s[pos]'hp).toNat < 128
            · have hda := decode_ascii s pos hp ha
              rw [hda] at hnx
              clear hda
              go_wp2_with fail
              refine (isSymbolRune_ascii _ _ (by omega) (by omega)).mono ?_
              rintro e w1 ⟨rfl, rfl⟩
              cases hq : symRune (s[pos]'hp).toNat
              · have Hq := Lib.hid hq
                go_wp2_with fail
                go_ret
                exact ⟨ret_bool (by rw [K.out, all_false_of s _ pos hp Hq.out]; simp), (Below.refl _ _).alloc (Nat.le_refl _) _⟩
              · have Hq := Lib.hid hq
                go_wp2_with fail
                refine ⟨⟨pos + 1, by omega, by (show _ = _); rw [HT.out, HE.out, Hq.out]; rfl, rfl⟩, by simp; omega⟩
            · obtain ⟨hd1, hd2⟩ := decode_high s pos hp (by omega)
              have hd3 := decode_le s pos
              generalize Utf8.decode s pos = dc at *
              obtain ⟨dr, dw⟩ := dc
              simp only at hnx hd1 hd2 hd3
              go_wp2_with fail
              refine (isSymbolRune_any _ _ (by omega) (by omega)).mono ?_
              rintro e w1 ⟨rfl, hb1⟩
              rw [symRune_high (by omega)]
              have Hq : Hid (symRune (s[pos]'hp).toNat = false) := symRune_high (by omega)
              go_wp2_with fail
              go_ret
              exact ⟨ret_bool (by rw [K.out, all_false_of s _ pos hp Hq.out]; simp), ((Below.refl _ _).alloc (Nat.le_refl _) _).trans (hb1.mono (by simp [World.iter]))⟩
          · have hnx : ∀ ty, (Instr.next (.pointer (some ⟨w.heap.size, 0, none⟩)) true ty).run Try.prog (w.iter s pos) = _ := fun ty => run_next_end w s pos ty hp
            go_wp2_with fail
            go_ret
            have hpe : pos = s.size := by omega
            refine ⟨ret_bool ?_, (Below.refl _ _).alloc (Nat.le_refl _) _⟩
            have := HE.out
            rw [hpe, List.take_of_length_le (by rw [len_size]; omega)] at this
            rw [K.out, this, Hst.out]
            simp
            omega
      · have Hst := Lib.hid hst
        go_enter Try.func88, Try.ntmps88
        go_wp2_with fail
        refine (starts_any _ _).mono ?_
        rintro e w1 ⟨rfl, rfl⟩
        rw [Hst.out]
        clear hst
        go_wp2_with fail
        go_ret
        exact ⟨ret_bool (by rw [K.out, Hst.out]; simp), Below.refl _ _⟩
    · have h2 : (16 : Int) < (s.size : Int) := by omega
      have HK : Hid (decide (1 ≤ s.size ∧ s.size ≤ 16) = false) := by show _ = _; simp; omega
      go_enter Try.func88, Try.ntmps88
      go_wp2_with fail
      go_ret
      exact ⟨ret_bool (by rw [K.out, HK.out]; rfl), Below.refl _ _⟩

set_option maxRecDepth 100000 in
set_option maxHeartbeats 1000000 in
theorem specSymbol_any (s : ByteArray) (w : World) : Calls Try.prog 95 #[.string s] w fun e w' => e = .returned (.bool (symB s)) ∧ w = w' := by
  have K : Hid (symB s = (decide (1 ≤ s.size ∧ s.size ≤ 16) && (!stNum s.data.toList && s.data.toList.all fun c => symRune c.toNat))) := by
    show _ = _
    rw [symB, symL, len_size]
  have L1 := l1In_any s.size 1 16
  have H1 := Lib.hid L1
  clear L1
  by_cases h1 : 1 ≤ s.size ∧ s.size ≤ 16
  · have hd1 : decide ((1 : Int) ≤ s.size ∧ (s.size : Int) ≤ 16) = true := by simp; omega
    have HD := Lib.hid hd1
    clear hd1
    obtain ⟨h1a, h1b⟩ := h1
    have h0 : 0 < s.size := by omega
    have g0 : (0 : Int) < (s.size : Int) := by omega
    have loop : ∀ (T : Prop), True := fun _ => trivial
    have hst : stNum s.data.toList = (isDig (s[0]'h0).toNat || (decide (((s[0]'h0).toNat : Int) = 45) && (if h : 1 < s.size then isDig (s[1]'h).toNat else false))) := by
      have e0 : s.data.toList[0]? = some (s[0]'h0) := by rw [List.getElem?_eq_getElem (by exact h0)]; rfl
      have ls := len_size s
      match hl : s.data.toList with
      | [] => rw [hl] at ls; simp at ls; omega
      | [c] =>
        rw [hl] at ls e0
        simp at ls e0
        rw [stNum, e0, dif_neg (by omega)]
        simp
      | c :: d :: r =>
        have h2 : 1 < s.size := by rw [← ls, hl]; simp
        have e1 : s.data.toList[1]? = some (s[1]'h2) := by rw [List.getElem?_eq_getElem (by exact h2)]; rfl
        rw [hl] at e0 e1
        simp at e0 e1
        rw [stNum, e0, e1, dif_pos h2]
    have Hst := Lib.hid hst
    clear hst loop
    go_enter Try.func95, Try.ntmps95
    go_wp2_with fail
    refine (H1.out _).mono ?_
    rintro e w1 ⟨rfl, rfl⟩
    rw [HD.out]
    go_wp2_with fail
    refine (l1Digit_any _ _).mono ?_
    rintro e w1 ⟨rfl, rfl⟩
    cases hd : isDig (s[0]'h0).toNat
    · have Hd := Lib.hid hd
      clear hd
      by_cases h45 : (((s[0]'h0).toNat : Int) == 45) = true
      · have h45' : ((s[0]'h0).toNat : Int) = 45 := by simpa using h45
        have H45 := Lib.hid h45'
        clear h45'
        by_cases hs1 : 1 < s.size
        · have g3 : (1 : Int) < (s.size : Int) := by omega
          go_wp2_with fail
          refine (l1Digit_any _ _).mono ?_
          rintro e w1 ⟨rfl, rfl⟩
          cases hd1 : isDig (s[1]'hs1).toNat
          · have Hd1 := Lib.hid hd1
            clear hd1
            go_wp2_with fail
            go_loop [3] (fun i => ∃ j : Nat, j ≤ s.size ∧ i = .int .i64 j ∧ Hid ((s.data.toList.take j).all (fun c => symRune c.toNat) = true)) (fun i => s.size - (intOf i).toNat)
            case atStart => exact ⟨0, Nat.zero_le _, rfl, by simp [Hid]⟩
            case round =>
              obtain ⟨j, hj, rfl, HE⟩ := hrel
              by_cases hlt : j < s.size
              · have HT := Lib.hid (all_take_succ s (fun c => symRune c.toNat) j hlt)
                have g1 : (0 : Int) ≤ (j : Int) := by omega
                have g2 : (j : Int) < (s.size : Int) := by omega
                go_wp2_with fail
                refine (l1Mark_any _ _).mono ?_
                rintro e w1 ⟨rfl, rfl⟩
                cases hq : symRune (s[j]'hlt).toNat
                · have Hq := Lib.hid hq
                  go_wp2_with fail
                  go_ret
                  exact ⟨ret_bool (by rw [K.out, all_false_of s _ j hlt Hq.out]; simp), rfl⟩
                · have Hq := Lib.hid hq
                  go_wp2_with fail
                  go_round
                  case rel => exact ⟨j + 1, by omega, by go_num, by (show _ = _); rw [HT.out, HE.out, Hq.out]; rfl⟩
                  case measure => simp [intOf]; omega
              · go_wp2_with fail
                go_ret
                have hpe : j = s.size := by omega
                refine ⟨ret_bool ?_, rfl⟩
                have := HE.out
                rw [hpe, List.take_of_length_le (by rw [len_size]; omega)] at this
                rw [K.out, this, Hst.out]
                rw [Hd.out, dif_pos hs1, Hd1.out]; simp; omega
          · have Hd1 := Lib.hid hd1
            clear hd1
            go_wp2_with fail
            go_ret
            exact ⟨ret_bool (by rw [K.out, Hst.out, dif_pos hs1, Hd1.out, decide_eq_true H45.out]; simp), rfl⟩
        · have g3 : ¬ (1 : Int) < (s.size : Int) := by omega
          go_wp2_with fail
          go_loop [3] (fun i => ∃ j : Nat, j ≤ s.size ∧ i = .int .i64 j ∧ Hid ((s.data.toList.take j).all (fun c => symRune c.toNat) = true)) (fun i => s.size - (intOf i).toNat)
          case atStart => exact ⟨0, Nat.zero_le _, rfl, by simp [Hid]⟩
          case round =>
            obtain ⟨j, hj, rfl, HE⟩ := hrel
            by_cases hlt : j < s.size
            · have HT := Lib.hid (all_take_succ s (fun c => symRune c.toNat) j hlt)
              have g1 : (0 : Int) ≤ (j : Int) := by omega
              have g2 : (j : Int) < (s.size : Int) := by omega
              go_wp2_with fail
              refine (l1Mark_any _ _).mono ?_
              rintro e w1 ⟨rfl, rfl⟩
              cases hq : symRune (s[j]'hlt).toNat
              · have Hq := Lib.hid hq
                go_wp2_with fail
                go_ret
                exact ⟨ret_bool (by rw [K.out, all_false_of s _ j hlt Hq.out]; simp), rfl⟩
              · have Hq := Lib.hid hq
                go_wp2_with fail
                go_round
                case rel => exact ⟨j + 1, by omega, by go_num, by (show _ = _); rw [HT.out, HE.out, Hq.out]; rfl⟩
                case measure => simp [intOf]; omega
            · go_wp2_with fail
              go_ret
              have hpe : j = s.size := by omega
              refine ⟨ret_bool ?_, rfl⟩
              have := HE.out
              rw [hpe, List.take_of_length_le (by rw [len_size]; omega)] at this
              rw [K.out, this, Hst.out]
              rw [Hd.out, dif_neg hs1]; simp; omega
      · have h45' : (((s[0]'h0).toNat : Int) == 45) = false := by simpa using h45
        have h46 : ¬ ((s[0]'h0).toNat : Int) = 45 := by simpa using h45
        have H46 := Lib.hid (decide_eq_false h46)
        clear h45 h46
        go_wp2_with fail
        go_loop [3] (fun i => ∃ j : Nat, j ≤ s.size ∧ i = .int .i64 j ∧ Hid ((s.data.toList.take j).all (fun c => symRune c.toNat) = true)) (fun i => s.size - (intOf i).toNat)
        case atStart => exact ⟨0, Nat.zero_le _, rfl, by simp [Hid]⟩
        case round =>
          obtain ⟨j, hj, rfl, HE⟩ := hrel
          by_cases hlt : j < s.size
          · have HT := Lib.hid (all_take_succ s (fun c => symRune c.toNat) j hlt)
            have g1 : (0 : Int) ≤ (j : Int) := by omega
            have g2 : (j : Int) < (s.size : Int) := by omega
            go_wp2_with fail
            refine (l1Mark_any _ _).mono ?_
            rintro e w1 ⟨rfl, rfl⟩
            cases hq : symRune (s[j]'hlt).toNat
            · have Hq := Lib.hid hq
              go_wp2_with fail
              go_ret
              exact ⟨ret_bool (by rw [K.out, all_false_of s _ j hlt Hq.out]; simp), rfl⟩
            · have Hq := Lib.hid hq
              go_wp2_with fail
              go_round
              case rel => exact ⟨j + 1, by omega, by go_num, by (show _ = _); rw [HT.out, HE.out, Hq.out]; rfl⟩
              case measure => simp [intOf]; omega
          · go_wp2_with fail
            go_ret
            have hpe : j = s.size := by omega
            refine ⟨ret_bool ?_, rfl⟩
            have := HE.out
            rw [hpe, List.take_of_length_le (by rw [len_size]; omega)] at this
            rw [K.out, this, Hst.out]
            rw [Hd.out, H46.out]; simp; omega
    · have Hd := Lib.hid hd
      clear hd
      go_wp2_with fail
      go_ret
      exact ⟨ret_bool (by rw [K.out, Hst.out, Hd.out]; simp), rfl⟩
  · have hd1 : decide ((1 : Int) ≤ s.size ∧ (s.size : Int) ≤ 16) = false := by simp; omega
    have HD := Lib.hid hd1
    have HN : Hid (decide (1 ≤ s.size ∧ s.size ≤ 16) = false) := by show _ = _; simpa using h1
    clear hd1 h1
    go_enter Try.func95, Try.ntmps95
    go_wp2_with fail
    refine (H1.out _).mono ?_
    rintro e w1 ⟨rfl, rfl⟩
    rw [HD.out]
    go_wp2_with fail
    go_ret
    exact ⟨ret_bool (by rw [K.out, HN.out]; rfl), rfl⟩
end Go.Proofs.Ytiopophoioiafaa
