/-
  Symbols and the text of strings: the program's and the model's.
-/
import Derived.Test.YtiopophoioiafaaRune
import Derived.Test.YtiopophoioiafaaOwn
namespace Go.Proofs.Ytiopophoioiafaa
open Go.RowKit

def isDig (c : Int) : Bool := decide (48 ≤ c ∧ c ≤ 57)
def symRune (r : Int) : Bool := decide (97 ≤ r ∧ r ≤ 122) || (isDig r || markR r)
def stNum : List UInt8 → Bool
  | [] => false
  | [c] => isDig c.toNat
  | c :: d :: _ => isDig c.toNat || (decide ((c.toNat : Int) = 45) && isDig d.toNat)
def symL (l : List UInt8) : Bool := decide (1 ≤ l.length ∧ l.length ≤ 16) && (!stNum l && l.all fun c => symRune c.toNat)
def symB (s : ByteArray) : Bool := symL s.data.toList
def txtByte (c : Int) : Bool := !(decide (c < 32) || (decide (126 < c) || decide (c = 34)))
def txtL (l : List UInt8) : Bool := decide (l.length ≤ 20) && l.all fun c => txtByte c.toNat
def txtB (s : ByteArray) : Bool := txtL s.data.toList

theorem symRune_high {r : Int} (h : 128 ≤ r) : symRune r = false := by simp [symRune, isDig, markR]; omega
theorem txtByte_high {r : Int} (h : 128 ≤ r) : txtByte r = false := by simp [txtByte]; omega

theorem isDigit_any (r : Int) (w : World) : Calls Try.prog 195 #[.int .i32 r] w fun e w' => e = .returned (.bool (isDig r)) ∧ w = w' := by
  have h0 : isDig r = (decide (48 ≤ r) && decide (r ≤ 57)) := by simp [isDig]
  have H := Lib.hid h0
  clear h0
  by_cases h1 : 48 ≤ r
  · by_cases h2 : r ≤ 57
    · go_enter Try.func195, Try.ntmps195
      go_wp2_with fail
      go_ret
      exact ⟨ret_bool (by rw [H.out]; simp; omega), rfl⟩
    · go_enter Try.func195, Try.ntmps195
      go_wp2_with fail
      go_ret
      exact ⟨ret_bool (by rw [H.out]; simp; omega), rfl⟩
  · go_enter Try.func195, Try.ntmps195
    go_wp2_with fail
    go_ret
    exact ⟨ret_bool (by rw [H.out]; simp; omega), rfl⟩
theorem l1Digit_any (r : Int) (w : World) : Calls Try.prog 156 #[.int .u8 r] w fun e w' => e = .returned (.bool (isDig r)) ∧ w = w' := by
  have h0 : isDig r = (decide (48 ≤ r) && decide (r ≤ 57)) := by simp [isDig]
  have H := Lib.hid h0
  clear h0
  by_cases h1 : 48 ≤ r
  · by_cases h2 : r ≤ 57
    · go_enter Try.func156, Try.ntmps156
      go_wp2_with fail
      go_ret
      exact ⟨ret_bool (by rw [H.out]; simp; omega), rfl⟩
    · go_enter Try.func156, Try.ntmps156
      go_wp2_with fail
      go_ret
      exact ⟨ret_bool (by rw [H.out]; simp; omega), rfl⟩
  · go_enter Try.func156, Try.ntmps156
    go_wp2_with fail
    go_ret
    exact ⟨ret_bool (by rw [H.out]; simp; omega), rfl⟩

theorem isSymbolRune_any (r : Int) (w : World) (h1 : 0 ≤ r) (h2 : r ≤ 2147483647) : Calls Try.prog 153 #[.int .i32 r] w fun e w' => e = .returned (.bool (symRune r)) ∧ Below w.heap.size w w' := by
  have h0 : symRune r = (decide (97 ≤ r ∧ r ≤ 122) || (isDig r || markR r)) := rfl
  have H := Lib.hid h0
  clear h0
  by_cases h3 : 97 ≤ r ∧ r ≤ 122
  · obtain ⟨h4, h5⟩ := h3
    go_enter Try.func153, Try.ntmps153
    go_wp2_with fail
    go_ret
    exact ⟨ret_bool (by rw [H.out]; simp; omega), Below.refl _ _⟩
  · have hx : (decide (97 ≤ r ∧ r ≤ 122)) = false := by simpa using h3
    have Hx := Lib.hid hx
    clear hx
    by_cases h4 : 97 ≤ r
    · have h5 : ¬ r ≤ 122 := fun h => h3 ⟨h4, h⟩
      clear h3
      go_enter Try.func153, Try.ntmps153
      go_wp2_with fail
      refine (isDigit_any _ _).mono ?_
      rintro e w1 ⟨rfl, rfl⟩
      cases hd : isDig r
      · have Hd := Lib.hid hd
        go_wp2_with fail
        refine (containsRune_any _ _ h1 h2).mono ?_
        rintro e w1 ⟨rfl, hb⟩
        go_wp2_with fail
        go_ret
        exact ⟨ret_bool (by rw [H.out, Hx.out, Hd.out]; simp), hb⟩
      · have Hd := Lib.hid hd
        go_wp2_with fail
        go_ret
        exact ⟨ret_bool (by rw [H.out, Hd.out]; simp), Below.refl _ _⟩
    · clear h3
      go_enter Try.func153, Try.ntmps153
      go_wp2_with fail
      refine (isDigit_any _ _).mono ?_
      rintro e w1 ⟨rfl, rfl⟩
      cases hd : isDig r
      · have Hd := Lib.hid hd
        go_wp2_with fail
        refine (containsRune_any _ _ h1 h2).mono ?_
        rintro e w1 ⟨rfl, hb⟩
        go_wp2_with fail
        go_ret
        exact ⟨ret_bool (by rw [H.out, Hx.out, Hd.out]; simp), hb⟩
      · have Hd := Lib.hid hd
        go_wp2_with fail
        go_ret
        exact ⟨ret_bool (by rw [H.out, Hd.out]; simp), Below.refl _ _⟩
theorem isSymbolRune_ascii (r : Int) (w : World) (h1 : 0 ≤ r) (h2 : r < 128) : Calls Try.prog 153 #[.int .i32 r] w fun e w' => e = .returned (.bool (symRune r)) ∧ w = w' := by
  have h0 : symRune r = (decide (97 ≤ r ∧ r ≤ 122) || (isDig r || markR r)) := rfl
  have H := Lib.hid h0
  clear h0
  by_cases h3 : 97 ≤ r ∧ r ≤ 122
  · obtain ⟨h4, h5⟩ := h3
    go_enter Try.func153, Try.ntmps153
    go_wp2_with fail
    go_ret
    exact ⟨ret_bool (by rw [H.out]; simp; omega), rfl⟩
  · have hx : (decide (97 ≤ r ∧ r ≤ 122)) = false := by simpa using h3
    have Hx := Lib.hid hx
    clear hx
    by_cases h4 : 97 ≤ r
    · have h5 : ¬ r ≤ 122 := fun h => h3 ⟨h4, h⟩
      clear h3
      go_enter Try.func153, Try.ntmps153
      go_wp2_with fail
      refine (isDigit_any _ _).mono ?_
      rintro e w1 ⟨rfl, rfl⟩
      cases hd : isDig r
      · have Hd := Lib.hid hd
        go_wp2_with fail
        refine (containsRune_ascii _ _ h1 h2).mono ?_
        rintro e w1 ⟨rfl, rfl⟩
        go_wp2_with fail
        go_ret
        exact ⟨ret_bool (by rw [H.out, Hx.out, Hd.out]; simp), rfl⟩
      · have Hd := Lib.hid hd
        go_wp2_with fail
        go_ret
        exact ⟨ret_bool (by rw [H.out, Hd.out]; simp), rfl⟩
    · clear h3
      go_enter Try.func153, Try.ntmps153
      go_wp2_with fail
      refine (isDigit_any _ _).mono ?_
      rintro e w1 ⟨rfl, rfl⟩
      cases hd : isDig r
      · have Hd := Lib.hid hd
        go_wp2_with fail
        refine (containsRune_ascii _ _ h1 h2).mono ?_
        rintro e w1 ⟨rfl, rfl⟩
        go_wp2_with fail
        go_ret
        exact ⟨ret_bool (by rw [H.out, Hx.out, Hd.out]; simp), rfl⟩
      · have Hd := Lib.hid hd
        go_wp2_with fail
        go_ret
        exact ⟨ret_bool (by rw [H.out, Hd.out]; simp), rfl⟩
end Go.Proofs.Ytiopophoioiafaa
