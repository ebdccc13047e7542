/-
  The text of strings; the law on IsSymbol, walked.
-/
import Derived.Test.YtiopophoioiafaaSymc
namespace Go.Proofs.Ytiopophoioiafaa
open Go.RowKit

set_option maxRecDepth 100000 in
set_option maxHeartbeats 1000000 in
theorem implText_any (s : ByteArray) (w : World) : Calls Try.prog 198 #[.string s] w fun e w' => e = .returned (.bool (txtB s)) ∧ Below w.heap.size w w' := by
  have K : Hid (txtB s = (decide (s.size ≤ 20) && s.data.toList.all fun c => txtByte c.toNat)) := by
    show _ = _
    rw [txtB, txtL, len_size]
  by_cases h1 : s.size ≤ 20
  · have h2 : ¬ (20 : Int) < (s.size : Int) := by omega
    go_enter Try.func198, Try.ntmps198
    go_wp2_with fail
    go_loopw [] (fun w' => ∃ pos : Nat, pos ≤ s.size ∧ Hid ((s.data.toList.take pos).all (fun c => txtByte c.toNat) = true) ∧ w' = w.iter s pos) (fun w' => s.size - w'.iterPos w.heap.size)
    case atStart => exact ⟨0, Nat.zero_le _, by simp [Hid], rfl⟩
    case round =>
      obtain ⟨pos, hpos, HE, rfl⟩ := hrel
      by_cases hp : pos < s.size
      · have hnx : ∀ ty, (Instr.next (.pointer (some ⟨w.heap.size, 0, none⟩)) true ty).run Try.prog (w.iter s pos) = _ := fun ty => run_next_any w s pos ty hp
        have HT := Lib.hid (all_take_succ s (fun c => txtByte c.toNat) pos hp)
        by_cases ha : (s[pos]'hp).toNat < 128
        · have hda := decode_ascii s pos hp ha
          rw [hda] at hnx
          clear hda
          by_cases c1 : ((s[pos]'hp).toNat : Int) < 32
          · have Hq : Hid (txtByte (s[pos]'hp).toNat = false) := by show _ = _; simp [txtByte]; omega
            go_wp2_with fail
            go_ret
            exact ⟨ret_bool (by rw [K.out, all_false_of s _ pos hp Hq.out]; simp), (Below.refl _ _).alloc (Nat.le_refl _) _⟩
          · by_cases c2 : (126 : Int) < ((s[pos]'hp).toNat : Int)
            · have Hq : Hid (txtByte (s[pos]'hp).toNat = false) := by show _ = _; simp [txtByte]; omega
              go_wp2_with fail
              go_ret
              exact ⟨ret_bool (by rw [K.out, all_false_of s _ pos hp Hq.out]; simp), (Below.refl _ _).alloc (Nat.le_refl _) _⟩
            · by_cases c3 : (((s[pos]'hp).toNat : Int) == 34) = true
              · have Hq : Hid (txtByte (s[pos]'hp).toNat = false) := by show _ = _; simp [txtByte]; simp at c3; omega
                go_wp2_with fail
                go_ret
                exact ⟨ret_bool (by rw [K.out, all_false_of s _ pos hp Hq.out]; simp), (Below.refl _ _).alloc (Nat.le_refl _) _⟩
              · have c4 : (((s[pos]'hp).toNat : Int) == 34) = false := by simpa using c3
                have Hq : Hid (txtByte (s[pos]'hp).toNat = true) := by show _ = _; simp [txtByte]; simp at c3; omega
                clear c3
                go_wp2_with fail
                refine ⟨⟨pos + 1, by omega, by (show _ = _); rw [HT.out, HE.out, Hq.out]; rfl, rfl⟩, by simp; omega⟩
        · obtain ⟨hd1, hd2⟩ := decode_high s pos hp (by omega)
          have hd3 := decode_le s pos
          generalize Utf8.decode s pos = dc at *
          obtain ⟨dr, dw⟩ := dc
          simp only at hnx hd1 hd2 hd3
          have c1 : ¬ (dr : Int) < 32 := by omega
          have c2 : (126 : Int) < (dr : Int) := by omega
          have Hq : Hid (txtByte (s[pos]'hp).toNat = false) := txtByte_high (by omega)
          go_wp2_with fail
          go_ret
          exact ⟨ret_bool (by rw [K.out, all_false_of s _ pos hp Hq.out]; simp), (Below.refl _ _).alloc (Nat.le_refl _) _⟩
      · have hnx : ∀ ty, (Instr.next (.pointer (some ⟨w.heap.size, 0, none⟩)) true ty).run Try.prog (w.iter s pos) = _ := fun ty => run_next_end w s pos ty hp
        go_wp2_with fail
        go_ret
        have hpe : pos = s.size := by omega
        refine ⟨ret_bool ?_, (Below.refl _ _).alloc (Nat.le_refl _) _⟩
        have := HE.out
        rw [hpe, List.take_of_length_le (by rw [len_size]; omega)] at this
        rw [K.out, this]
        simp
        omega
  · have h2 : (20 : Int) < (s.size : Int) := by omega
    have HK : Hid (decide (s.size ≤ 20) = false) := by show _ = _; simp; omega
    go_enter Try.func198, Try.ntmps198
    go_wp2_with fail
    go_ret
    exact ⟨ret_bool (by rw [K.out, HK.out]; rfl), Below.refl _ _⟩

set_option maxRecDepth 100000 in
set_option maxHeartbeats 1000000 in
theorem specText_any (s : ByteArray) (w : World) (hs : s.size ≤ 9223372036854775807) : Calls Try.prog 199 #[.string s] w fun e w' => e = .returned (.bool (txtB s)) ∧ w = w' := by
  have K : Hid (txtB s = (decide (s.size ≤ 20) && s.data.toList.all fun c => txtByte c.toNat)) := by
    show _ = _
    rw [txtB, txtL, len_size]
  go_enter Try.func199, Try.ntmps199
  go_wp2_with fail
  go_loop [3] (fun i => ∃ j : Nat, j ≤ s.size ∧ i = .int .i64 j ∧ Hid ((s.data.toList.take j).all (fun c => txtByte c.toNat) = true)) (fun i => s.size - (intOf i).toNat)
  case atStart => exact ⟨0, Nat.zero_le _, rfl, by simp [Hid]⟩
  case round =>
    obtain ⟨j, hj, rfl, HE⟩ := hrel
    by_cases hlt : j < s.size
    · have HT := Lib.hid (all_take_succ s (fun c => txtByte c.toNat) j hlt)
      have g1 : (0 : Int) ≤ (j : Int) := by omega
      have g2 : (j : Int) < (s.size : Int) := by omega
      by_cases c1 : ((s[j]'hlt).toNat : Int) < 32
      · have Hq : Hid (txtByte (s[j]'hlt).toNat = false) := by show _ = _; simp [txtByte]; omega
        go_wp2_with fail
        go_ret
        exact ⟨ret_bool (by rw [K.out, all_false_of s _ j hlt Hq.out]; simp), rfl⟩
      · by_cases c2 : (126 : Int) < ((s[j]'hlt).toNat : Int)
        · have Hq : Hid (txtByte (s[j]'hlt).toNat = false) := by show _ = _; simp [txtByte]; omega
          go_wp2_with fail
          go_ret
          exact ⟨ret_bool (by rw [K.out, all_false_of s _ j hlt Hq.out]; simp), rfl⟩
        · by_cases c3 : (((s[j]'hlt).toNat : Int) == 34) = true
          · have Hq : Hid (txtByte (s[j]'hlt).toNat = false) := by show _ = _; simp [txtByte]; simp at c3; omega
            go_wp2_with fail
            go_ret
            exact ⟨ret_bool (by rw [K.out, all_false_of s _ j hlt Hq.out]; simp), rfl⟩
          · have c4 : (((s[j]'hlt).toNat : Int) == 34) = false := by simpa using c3
            have Hq : Hid (txtByte (s[j]'hlt).toNat = true) := by show _ = _; simp [txtByte]; simp at c3; omega
            clear c3
            go_wp2_with fail
            go_round
            case rel => exact ⟨j + 1, by omega, by go_num, by (show _ = _); rw [HT.out, HE.out, Hq.out]; rfl⟩
            case measure => simp [intOf]; omega
    · go_wp2_with fail
      go_ret
      have hpe : j = s.size := by omega
      refine ⟨ret_bool ?_, rfl⟩
      have := HE.out
      rw [hpe, List.take_of_length_le (by rw [len_size]; omega)] at this
      rw [K.out, this]
      simp
      omega
end Go.Proofs.Ytiopophoioiafaa
