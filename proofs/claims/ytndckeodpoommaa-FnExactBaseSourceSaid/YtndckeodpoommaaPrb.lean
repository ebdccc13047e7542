/-
  BaseSource and ProblemText, the model's and the program's; the laws on them, walked.
-/
import Derived.Test.YtndckeodpoommaaCodT
namespace Go.Proofs.Ytndckeodpoommaa
open Go.RowKit

set_option maxRecDepth 100000 in
def baseT : ByteArray := ⟨#[40, 100, 101, 102, 105, 110, 101, 45, 115, 121, 110, 116, 97, 120, 32, 108, 101, 116, 32, 40, 115, 121, 110, 116, 97, 120, 45, 114, 117, 108, 101, 115, 32, 40, 41, 32, 40, 40, 95, 32, 40, 40, 120, 32, 101, 41, 32, 46, 46, 46, 41, 32, 98, 32, 46, 46, 46, 41, 32, 40, 40, 108, 97, 109, 98, 100, 97, 32, 40, 120, 32, 46, 46, 46, 41, 32, 98, 32, 46, 46, 46, 41, 32, 101, 32, 46, 46, 46, 41, 41, 41, 41, 10, 40, 100, 101, 102, 105, 110, 101, 45, 115, 121, 110, 116, 97, 120, 32, 108, 101, 116, 42, 32, 40, 115, 121, 110, 116, 97, 120, 45, 114, 117, 108, 101, 115, 32, 40, 41, 32, 40, 40, 95, 32, 40, 41, 32, 98, 32, 46, 46, 46, 41, 32, 40, 108, 101, 116, 32, 40, 41, 32, 98, 32, 46, 46, 46, 41, 41, 32, 40, 40, 95, 32, 40, 97, 32, 109, 32, 46, 46, 46, 41, 32, 98, 32, 46, 46, 46, 41, 32, 40, 108, 101, 116, 32, 40, 97, 41, 32, 40, 108, 101, 116, 42, 32, 40, 109, 32, 46, 46, 46, 41, 32, 98, 32, 46, 46, 46, 41, 41, 41, 41, 41, 10, 40, 100, 101, 102, 105, 110, 101, 45, 115, 121, 110, 116, 97, 120, 32, 108, 101, 116, 114, 101, 99, 32, 40, 115, 121, 110, 116, 97, 120, 45, 114, 117, 108, 101, 115, 32, 40, 41, 32, 40, 40, 95, 32, 40, 40, 120, 32, 101, 41, 32, 46, 46, 46, 41, 32, 98, 32, 46, 46, 46, 41, 32, 40, 108, 101, 116, 32, 40, 41, 32, 40, 100, 101, 102, 105, 110, 101, 32, 120, 32, 101, 41, 32, 46, 46, 46, 32, 40, 108, 101, 116, 32, 40, 41, 32, 98, 32, 46, 46, 46, 41, 41, 41, 41, 41, 10, 40, 100, 101, 102, 105, 110, 101, 45, 115, 121, 110, 116, 97, 120, 32, 97, 110, 100, 32, 40, 115, 121, 110, 116, 97, 120, 45, 114, 117, 108, 101, 115, 32, 40, 41, 32, 40, 40, 95, 41, 32, 35, 116, 41, 32, 40, 40, 95, 32, 101, 41, 32, 101, 41, 32, 40, 40, 95, 32, 101, 32, 109, 32, 46, 46, 46, 41, 32, 40, 105, 102, 32, 101, 32, 40, 97, 110, 100, 32, 109, 32, 46, 46, 46, 41, 32, 35, 102, 41, 41, 41, 41, 10, 40, 100, 101, 102, 105, 110, 101, 45, 115, 121, 110, 116, 97, 120, 32, 111, 114, 32, 40, 115, 121, 110, 116, 97, 120, 45, 114, 117, 108, 101, 115, 32, 40, 41, 32, 40, 40, 95, 41, 32, 35, 102, 41, 32, 40, 40, 95, 32, 101, 41, 32, 101, 41, 32, 40, 40, 95, 32, 101, 32, 109, 32, 46, 46, 46, 41, 32, 40, 108, 101, 116, 32, 40, 40, 116, 32, 101, 41, 41, 32, 40, 105, 102, 32, 116, 32, 116, 32, 40, 111, 114, 32, 109, 32, 46, 46, 46, 41, 41, 41, 41, 41, 41, 10, 40, 100, 101, 102, 105, 110, 101, 45, 115, 121, 110, 116, 97, 120, 32, 119, 104, 101, 110, 32, 40, 115, 121, 110, 116, 97, 120, 45, 114, 117, 108, 101, 115, 32, 40, 41, 32, 40, 40, 95, 32, 99, 32, 101, 32, 46, 46, 46, 41, 32, 40, 105, 102, 32, 99, 32, 40, 98, 101, 103, 105, 110, 32, 101, 32, 46, 46, 46, 41, 32, 35, 102, 41, 41, 41, 41, 10, 40, 100, 101, 102, 105, 110, 101, 45, 115, 121, 110, 116, 97, 120, 32, 99, 111, 110, 100, 32, 40, 115, 121, 110, 116, 97, 120, 45, 114, 117, 108, 101, 115, 32, 40, 101, 108, 115, 101, 41, 32, 40, 40, 95, 41, 32, 35, 102, 41, 32, 40, 40, 95, 32, 40, 101, 108, 115, 101, 32, 101, 32, 46, 46, 46, 41, 41, 32, 40, 98, 101, 103, 105, 110, 32, 101, 32, 46, 46, 46, 41, 41, 32, 40, 40, 95, 32, 40, 99, 32, 101, 32, 46, 46, 46, 41, 32, 109, 32, 46, 46, 46, 41, 32, 40, 105, 102, 32, 99, 32, 40, 98, 101, 103, 105, 110, 32, 101, 32, 46, 46, 46, 41, 32, 40, 99, 111, 110, 100, 32, 109, 32, 46, 46, 46, 41, 41, 41, 41, 41, 10, 40, 100, 101, 102, 105, 110, 101, 45, 115, 121, 110, 116, 97, 120, 32, 119, 104, 105, 108, 101, 32, 40, 115, 121, 110, 116, 97, 120, 45, 114, 117, 108, 101, 115, 32, 40, 41, 32, 40, 40, 95, 32, 99, 32, 98, 32, 46, 46, 46, 41, 32, 40, 108, 101, 116, 32, 40, 41, 32, 40, 100, 101, 102, 105, 110, 101, 32, 40, 108, 111, 111, 112, 41, 32, 40, 105, 102, 32, 99, 32, 40, 98, 101, 103, 105, 110, 32, 98, 32, 46, 46, 46, 32, 40, 108, 111, 111, 112, 41, 41, 32, 35, 102, 41, 41, 32, 40, 108, 111, 111, 112, 41, 41, 41, 41, 41, 10, 40, 100, 101, 102, 105, 110, 101, 45, 115, 121, 110, 116, 97, 120, 32, 115, 119, 97, 112, 33, 32, 40, 115, 121, 110, 116, 97, 120, 45, 114, 117, 108, 101, 115, 32, 40, 41, 32, 40, 40, 95, 32, 97, 32, 98, 41, 32, 40, 108, 101, 116, 32, 40, 40, 116, 109, 112, 32, 97, 41, 41, 32, 40, 115, 101, 116, 33, 32, 97, 32, 98, 41, 32, 40, 115, 101, 116, 33, 32, 98, 32, 116, 109, 112, 41, 41, 41, 41, 41, 10]⟩

set_option maxRecDepth 100000 in
set_option maxHeartbeats 4000000 in
theorem sbase_any (w : World) : Calls Try.prog 9 #[] w fun e w' => e = .returned (.string baseT) ∧ w = w' := by
  go_enter Try.func9, Try.ntmps9
  go_wp2_with fail
  go_ret
  exact ⟨by kernel_rfl, rfl⟩

set_option maxRecDepth 100000 in
set_option maxHeartbeats 4000000 in
theorem ibase_any (w : World) : Calls Try.prog 10 #[] w fun e w' => e = .returned (.string baseT) ∧ w = w' := by
  go_enter Try.func10, Try.ntmps10
  go_wp2_with fail
  go_ret
  exact ⟨by kernel_rfl, rfl⟩

set_option maxHeartbeats 1000000 in
theorem law_base (w : World) : Calls Try.prog 3 #[] w fun e w' => e = .returned (.bool true) ∧ Below w.heap.size w w' := by
  obtain ⟨S, hS⟩ : ∃ S, S = baseT := ⟨_, rfl⟩
  have e1 : (S.toList != S.toList) = false := by simp
  go_enter Try.func3, Try.ntmps3
  go_wp2_with fail
  refine (sbase_any _).mono ?_
  rintro e w1 ⟨rfl, rfl⟩
  go_wp2_with fail
  refine (ibase_any _).mono ?_
  rintro e w2 ⟨rfl, rfl⟩
  rw [← hS]
  clear hS
  go_wp2_with fail
  go_ret
  exact ⟨rfl, Below.refl _ _⟩
def probT (n : Int) : ByteArray := if n = 21 then ⟨#[110, 111, 32, 115, 117, 99, 104, 32, 109, 111, 100, 117, 108, 101]⟩ else if n = 22 then ⟨#[109, 111, 100, 117, 108, 101, 32, 105, 115, 32, 100, 101, 102, 105, 110, 101, 100, 32, 97, 108, 114, 101, 97, 100, 121]⟩ else if n = 23 then ⟨#[98, 97, 100, 32, 101, 120, 112, 111, 114, 116]⟩ else if n = 24 then ⟨#[109, 97, 108, 102, 111, 114, 109, 101, 100, 32, 109, 111, 100, 117, 108, 101]⟩ else codeT n

set_option maxHeartbeats 2000000 in
theorem sprob_any (n : Int) (w : World) : Calls Try.prog 11 #[.int .i64 n] w fun e w' => e = .returned (.string (probT n)) ∧ Below w.heap.size w w' := by
  by_cases h21 : n = 21
  · subst h21
    go_enter Try.func11, Try.ntmps11
    go_wp2_with fail
    go_ret
    exact ⟨rfl, Below.refl _ _⟩
  by_cases h22 : n = 22
  · subst h22
    go_enter Try.func11, Try.ntmps11
    go_wp2_with fail
    go_ret
    exact ⟨rfl, Below.refl _ _⟩
  by_cases h23 : n = 23
  · subst h23
    go_enter Try.func11, Try.ntmps11
    go_wp2_with fail
    go_ret
    exact ⟨rfl, Below.refl _ _⟩
  by_cases h24 : n = 24
  · subst h24
    go_enter Try.func11, Try.ntmps11
    go_wp2_with fail
    go_ret
    exact ⟨rfl, Below.refl _ _⟩
  have HP : Hid (probT n = codeT n) := by show _ = _; unfold probT; rw [if_neg h21, if_neg h22, if_neg h23, if_neg h24]
  have n21 : (n == 21) = false := by simpa using h21
  clear h21
  have n22 : (n == 22) = false := by simpa using h22
  clear h22
  have n23 : (n == 23) = false := by simpa using h23
  clear h23
  have n24 : (n == 24) = false := by simpa using h24
  clear h24
  go_enter Try.func11, Try.ntmps11
  go_wp2_with fail
  refine (scode_any n _).mono ?_
  rintro e w1 ⟨rfl, hb1⟩
  go_wp2_with fail
  go_ret
  exact ⟨by rw [HP.out]; rfl, hb1⟩

set_option maxHeartbeats 2000000 in
theorem iprob_any (n : Int) (w : World) : Calls Try.prog 12 #[.int .i64 n] w fun e w' => e = .returned (.string (probT n)) ∧ Below w.heap.size w w' := by
  by_cases h21 : n = 21
  · subst h21
    go_enter Try.func12, Try.ntmps12
    go_wp2_with fail
    go_ret
    exact ⟨rfl, Below.refl _ _⟩
  by_cases h22 : n = 22
  · subst h22
    go_enter Try.func12, Try.ntmps12
    go_wp2_with fail
    go_ret
    exact ⟨rfl, Below.refl _ _⟩
  by_cases h23 : n = 23
  · subst h23
    go_enter Try.func12, Try.ntmps12
    go_wp2_with fail
    go_ret
    exact ⟨rfl, Below.refl _ _⟩
  by_cases h24 : n = 24
  · subst h24
    go_enter Try.func12, Try.ntmps12
    go_wp2_with fail
    go_ret
    exact ⟨rfl, Below.refl _ _⟩
  have HP : Hid (probT n = codeT n) := by show _ = _; unfold probT; rw [if_neg h21, if_neg h22, if_neg h23, if_neg h24]
  have n21 : (n == 21) = false := by simpa using h21
  clear h21
  have n22 : (n == 22) = false := by simpa using h22
  clear h22
  have n23 : (n == 23) = false := by simpa using h23
  clear h23
  have n24 : (n == 24) = false := by simpa using h24
  clear h24
  go_enter Try.func12, Try.ntmps12
  go_wp2_with fail
  refine (icode_any n _).mono ?_
  rintro e w1 ⟨rfl, hb1⟩
  go_wp2_with fail
  go_ret
  exact ⟨by rw [HP.out]; rfl, hb1⟩

set_option maxHeartbeats 1000000 in
theorem law_prob (n : Int) (w : World) : Calls Try.prog 4 #[.int .i64 n] w fun e w' => e = .returned (.bool true) ∧ Below w.heap.size w w' := by
  obtain ⟨S, hS⟩ : ∃ S, S = probT n := ⟨_, rfl⟩
  have e1 : (S.toList != S.toList) = false := by simp
  go_enter Try.func4, Try.ntmps4
  go_wp2_with fail
  refine (sprob_any n _).mono ?_
  rintro e w1 ⟨rfl, hb1⟩
  go_wp2_with fail
  refine (iprob_any n _).mono ?_
  rintro e w2 ⟨rfl, hb2⟩
  rw [← hS]
  have hb := hb1.trans (hb2.mono hb1.size)
  clear hb1 hb2 hS
  go_wp2_with fail
  go_ret
  exact ⟨rfl, hb⟩
end Go.Proofs.Ytndckeodpoommaa
