/-
  CodeText, the model's and the program's; the law on it, walked.
-/
import Derived.Test.YtndckeodpoommaaWords
import Derived.Test.YtndckeodpoommaaNames
namespace Go.Proofs.Ytndckeodpoommaa
open Go.RowKit

def codeN : List ByteArray := [⟨#[111, 107]⟩, ⟨#[98, 97, 100, 32, 115, 121, 110, 116, 97, 120]⟩, ⟨#[117, 110, 98, 111, 117, 110, 100, 32, 105, 100, 101, 110, 116, 105, 102, 105, 101, 114]⟩, ⟨#[97, 109, 98, 105, 103, 117, 111, 117, 115, 32, 105, 100, 101, 110, 116, 105, 102, 105, 101, 114]⟩, ⟨#[100, 117, 112, 108, 105, 99, 97, 116, 101, 32, 100, 101, 102, 105, 110, 105, 116, 105, 111, 110]⟩, ⟨#[100, 101, 102, 105, 110, 105, 116, 105, 111, 110, 32, 105, 110, 32, 101, 120, 112, 114, 101, 115, 115, 105, 111, 110, 32, 99, 111, 110, 116, 101, 120, 116]⟩, ⟨#[110, 111, 32, 109, 97, 116, 99, 104, 105, 110, 103, 32, 114, 117, 108, 101]⟩, ⟨#[116, 111, 111, 32, 109, 97, 110, 121, 32, 109, 97, 99, 114, 111, 32, 115, 116, 101, 112, 115]⟩, ⟨#[116, 111, 111, 32, 108, 97, 114, 103, 101]⟩]
def codeT (n : Int) : ByteArray := if 0 ≤ n ∧ n ≤ 8 then codeN.getD n.toNat ⟨#[]⟩ else ⟨#[]⟩
theorem codeT_out {n : Int} (h : ¬ (0 ≤ n ∧ n ≤ 8)) : codeT n = ⟨#[]⟩ := if_neg h

set_option maxRecDepth 100000 in
set_option maxHeartbeats 4000000 in
theorem scode_any (n : Int) (w : World) : Calls Try.prog 42 #[.int .i64 n] w fun e w' => e = .returned (.string (codeT n)) ∧ Below w.heap.size w w' := by
  obtain ⟨W1, hW1⟩ : ∃ W1, W1 = w.alloc (.cells #[.string ⟨#[111, 107]⟩, .string ⟨#[98, 97, 100, 32, 115, 121, 110, 116, 97, 120]⟩, .string ⟨#[117, 110, 98, 111, 117, 110, 100, 32, 105, 100, 101, 110, 116, 105, 102, 105, 101, 114]⟩, .string ⟨#[97, 109, 98, 105, 103, 117, 111, 117, 115, 32, 105, 100, 101, 110, 116, 105, 102, 105, 101, 114]⟩, .string ⟨#[100, 117, 112, 108, 105, 99, 97, 116, 101, 32, 100, 101, 102, 105, 110, 105, 116, 105, 111, 110]⟩, .string ⟨#[100, 101, 102, 105, 110, 105, 116, 105, 111, 110, 32, 105, 110, 32, 101, 120, 112, 114, 101, 115, 115, 105, 111, 110, 32, 99, 111, 110, 116, 101, 120, 116]⟩, .string ⟨#[110, 111, 32, 109, 97, 116, 99, 104, 105, 110, 103, 32, 114, 117, 108, 101]⟩, .string ⟨#[116, 111, 111, 32, 109, 97, 110, 121, 32, 109, 97, 99, 114, 111, 32, 115, 116, 101, 112, 115]⟩, .string ⟨#[116, 111, 111, 32, 108, 97, 114, 103, 101]⟩] 9) := ⟨_, rfl⟩
  have B1 : Below w.heap.size w W1 := by rw [hW1]; exact (Below.refl _ _).alloc (Nat.le_refl _) _
  have hk : D.Blk W1 w.heap.size 9 #[.string ⟨#[111, 107]⟩, .string ⟨#[98, 97, 100, 32, 115, 121, 110, 116, 97, 120]⟩, .string ⟨#[117, 110, 98, 111, 117, 110, 100, 32, 105, 100, 101, 110, 116, 105, 102, 105, 101, 114]⟩, .string ⟨#[97, 109, 98, 105, 103, 117, 111, 117, 115, 32, 105, 100, 101, 110, 116, 105, 102, 105, 101, 114]⟩, .string ⟨#[100, 117, 112, 108, 105, 99, 97, 116, 101, 32, 100, 101, 102, 105, 110, 105, 116, 105, 111, 110]⟩, .string ⟨#[100, 101, 102, 105, 110, 105, 116, 105, 111, 110, 32, 105, 110, 32, 101, 120, 112, 114, 101, 115, 115, 105, 111, 110, 32, 99, 111, 110, 116, 101, 120, 116]⟩, .string ⟨#[110, 111, 32, 109, 97, 116, 99, 104, 105, 110, 103, 32, 114, 117, 108, 101]⟩, .string ⟨#[116, 111, 111, 32, 109, 97, 110, 121, 32, 109, 97, 99, 114, 111, 32, 115, 116, 101, 112, 115]⟩, .string ⟨#[116, 111, 111, 32, 108, 97, 114, 103, 101]⟩] := by rw [hW1]; exact D.Blk.new w _ _
  by_cases h : 0 ≤ n ∧ n ≤ 8
  · obtain ⟨j, rfl⟩ : ∃ j : Nat, n = (j : Int) := ⟨n.toNat, by omega⟩
    have hj : j < 9 := by omega
    clear h
    match j, hj with
    | 0, _ =>
      have ck := hk.cell 0
      clear hk
      go_enter Try.func42, Try.ntmps42
      go_wp2_with fail
      refine (l1In_any _ _ _ _).mono ?_
      rintro e w1 ⟨rfl, rfl⟩
      go_wp2_with fail
      rw [← hW1]
      go_wp2_with fail
      go_ret
      exact ⟨rfl, B1⟩
    | 1, _ =>
      have ck := hk.cell 1
      clear hk
      go_enter Try.func42, Try.ntmps42
      go_wp2_with fail
      refine (l1In_any _ _ _ _).mono ?_
      rintro e w1 ⟨rfl, rfl⟩
      go_wp2_with fail
      rw [← hW1]
      go_wp2_with fail
      go_ret
      exact ⟨rfl, B1⟩
    | 2, _ =>
      have ck := hk.cell 2
      clear hk
      go_enter Try.func42, Try.ntmps42
      go_wp2_with fail
      refine (l1In_any _ _ _ _).mono ?_
      rintro e w1 ⟨rfl, rfl⟩
      go_wp2_with fail
      rw [← hW1]
      go_wp2_with fail
      go_ret
      exact ⟨rfl, B1⟩
    | 3, _ =>
      have ck := hk.cell 3
      clear hk
      go_enter Try.func42, Try.ntmps42
      go_wp2_with fail
      refine (l1In_any _ _ _ _).mono ?_
      rintro e w1 ⟨rfl, rfl⟩
      go_wp2_with fail
      rw [← hW1]
      go_wp2_with fail
      go_ret
      exact ⟨rfl, B1⟩
    | 4, _ =>
      have ck := hk.cell 4
      clear hk
      go_enter Try.func42, Try.ntmps42
      go_wp2_with fail
      refine (l1In_any _ _ _ _).mono ?_
      rintro e w1 ⟨rfl, rfl⟩
      go_wp2_with fail
      rw [← hW1]
      go_wp2_with fail
      go_ret
      exact ⟨rfl, B1⟩
    | 5, _ =>
      have ck := hk.cell 5
      clear hk
      go_enter Try.func42, Try.ntmps42
      go_wp2_with fail
      refine (l1In_any _ _ _ _).mono ?_
      rintro e w1 ⟨rfl, rfl⟩
      go_wp2_with fail
      rw [← hW1]
      go_wp2_with fail
      go_ret
      exact ⟨rfl, B1⟩
    | 6, _ =>
      have ck := hk.cell 6
      clear hk
      go_enter Try.func42, Try.ntmps42
      go_wp2_with fail
      refine (l1In_any _ _ _ _).mono ?_
      rintro e w1 ⟨rfl, rfl⟩
      go_wp2_with fail
      rw [← hW1]
      go_wp2_with fail
      go_ret
      exact ⟨rfl, B1⟩
    | 7, _ =>
      have ck := hk.cell 7
      clear hk
      go_enter Try.func42, Try.ntmps42
      go_wp2_with fail
      refine (l1In_any _ _ _ _).mono ?_
      rintro e w1 ⟨rfl, rfl⟩
      go_wp2_with fail
      rw [← hW1]
      go_wp2_with fail
      go_ret
      exact ⟨rfl, B1⟩
    | 8, _ =>
      have ck := hk.cell 8
      clear hk
      go_enter Try.func42, Try.ntmps42
      go_wp2_with fail
      refine (l1In_any _ _ _ _).mono ?_
      rintro e w1 ⟨rfl, rfl⟩
      go_wp2_with fail
      rw [← hW1]
      go_wp2_with fail
      go_ret
      exact ⟨rfl, B1⟩
  · have he := Lib.hid (codeT_out h)
    clear hk
    have hd : (decide ((0 : Int) ≤ n ∧ n ≤ 8)) = false := by simpa using h
    clear h
    go_enter Try.func42, Try.ntmps42
    go_wp2_with fail
    refine (l1In_any _ _ _ _).mono ?_
    rintro e w1 ⟨rfl, rfl⟩
    rw [hd]
    go_wp2_with fail
    go_ret
    exact ⟨by rw [he.out]; rfl, Below.refl _ _⟩

set_option maxRecDepth 100000 in
set_option maxHeartbeats 4000000 in
theorem icode_any (n : Int) (w : World) : Calls Try.prog 43 #[.int .i64 n] w fun e w' => e = .returned (.string (codeT n)) ∧ Below w.heap.size w w' := by
  obtain ⟨W1, hW1⟩ : ∃ W1, W1 = w.alloc (.cells #[.string ⟨#[111, 107]⟩, .string ⟨#[98, 97, 100, 32, 115, 121, 110, 116, 97, 120]⟩, .string ⟨#[117, 110, 98, 111, 117, 110, 100, 32, 105, 100, 101, 110, 116, 105, 102, 105, 101, 114]⟩, .string ⟨#[97, 109, 98, 105, 103, 117, 111, 117, 115, 32, 105, 100, 101, 110, 116, 105, 102, 105, 101, 114]⟩, .string ⟨#[100, 117, 112, 108, 105, 99, 97, 116, 101, 32, 100, 101, 102, 105, 110, 105, 116, 105, 111, 110]⟩, .string ⟨#[100, 101, 102, 105, 110, 105, 116, 105, 111, 110, 32, 105, 110, 32, 101, 120, 112, 114, 101, 115, 115, 105, 111, 110, 32, 99, 111, 110, 116, 101, 120, 116]⟩, .string ⟨#[110, 111, 32, 109, 97, 116, 99, 104, 105, 110, 103, 32, 114, 117, 108, 101]⟩, .string ⟨#[116, 111, 111, 32, 109, 97, 110, 121, 32, 109, 97, 99, 114, 111, 32, 115, 116, 101, 112, 115]⟩, .string ⟨#[116, 111, 111, 32, 108, 97, 114, 103, 101]⟩] 9) := ⟨_, rfl⟩
  have B1 : Below w.heap.size w W1 := by rw [hW1]; exact (Below.refl _ _).alloc (Nat.le_refl _) _
  have hk : D.Blk W1 w.heap.size 9 #[.string ⟨#[111, 107]⟩, .string ⟨#[98, 97, 100, 32, 115, 121, 110, 116, 97, 120]⟩, .string ⟨#[117, 110, 98, 111, 117, 110, 100, 32, 105, 100, 101, 110, 116, 105, 102, 105, 101, 114]⟩, .string ⟨#[97, 109, 98, 105, 103, 117, 111, 117, 115, 32, 105, 100, 101, 110, 116, 105, 102, 105, 101, 114]⟩, .string ⟨#[100, 117, 112, 108, 105, 99, 97, 116, 101, 32, 100, 101, 102, 105, 110, 105, 116, 105, 111, 110]⟩, .string ⟨#[100, 101, 102, 105, 110, 105, 116, 105, 111, 110, 32, 105, 110, 32, 101, 120, 112, 114, 101, 115, 115, 105, 111, 110, 32, 99, 111, 110, 116, 101, 120, 116]⟩, .string ⟨#[110, 111, 32, 109, 97, 116, 99, 104, 105, 110, 103, 32, 114, 117, 108, 101]⟩, .string ⟨#[116, 111, 111, 32, 109, 97, 110, 121, 32, 109, 97, 99, 114, 111, 32, 115, 116, 101, 112, 115]⟩, .string ⟨#[116, 111, 111, 32, 108, 97, 114, 103, 101]⟩] := by rw [hW1]; exact D.Blk.new w _ _
  by_cases h : 0 ≤ n ∧ n ≤ 8
  · obtain ⟨j, rfl⟩ : ∃ j : Nat, n = (j : Int) := ⟨n.toNat, by omega⟩
    have hj : j < 9 := by omega
    clear h
    match j, hj with
    | 0, _ =>
      have ck := hk.cell 0
      clear hk
      go_enter Try.func43, Try.ntmps43
      go_wp2_with fail
      rw [← hW1]
      go_wp2_with fail
      go_ret
      exact ⟨rfl, B1⟩
    | 1, _ =>
      have ck := hk.cell 1
      clear hk
      go_enter Try.func43, Try.ntmps43
      go_wp2_with fail
      rw [← hW1]
      go_wp2_with fail
      go_ret
      exact ⟨rfl, B1⟩
    | 2, _ =>
      have ck := hk.cell 2
      clear hk
      go_enter Try.func43, Try.ntmps43
      go_wp2_with fail
      rw [← hW1]
      go_wp2_with fail
      go_ret
      exact ⟨rfl, B1⟩
    | 3, _ =>
      have ck := hk.cell 3
      clear hk
      go_enter Try.func43, Try.ntmps43
      go_wp2_with fail
      rw [← hW1]
      go_wp2_with fail
      go_ret
      exact ⟨rfl, B1⟩
    | 4, _ =>
      have ck := hk.cell 4
      clear hk
      go_enter Try.func43, Try.ntmps43
      go_wp2_with fail
      rw [← hW1]
      go_wp2_with fail
      go_ret
      exact ⟨rfl, B1⟩
    | 5, _ =>
      have ck := hk.cell 5
      clear hk
      go_enter Try.func43, Try.ntmps43
      go_wp2_with fail
      rw [← hW1]
      go_wp2_with fail
      go_ret
      exact ⟨rfl, B1⟩
    | 6, _ =>
      have ck := hk.cell 6
      clear hk
      go_enter Try.func43, Try.ntmps43
      go_wp2_with fail
      rw [← hW1]
      go_wp2_with fail
      go_ret
      exact ⟨rfl, B1⟩
    | 7, _ =>
      have ck := hk.cell 7
      clear hk
      go_enter Try.func43, Try.ntmps43
      go_wp2_with fail
      rw [← hW1]
      go_wp2_with fail
      go_ret
      exact ⟨rfl, B1⟩
    | 8, _ =>
      have ck := hk.cell 8
      clear hk
      go_enter Try.func43, Try.ntmps43
      go_wp2_with fail
      rw [← hW1]
      go_wp2_with fail
      go_ret
      exact ⟨rfl, B1⟩
  · have he := Lib.hid (codeT_out h)
    clear hk
    by_cases h0 : n < 0
    · clear h
      go_enter Try.func43, Try.ntmps43
      go_wp2_with fail
      rw [← hW1]
      go_ret
      exact ⟨by rw [he.out]; rfl, B1⟩
    · have h1 : (9 : Int) ≤ n := by omega
      clear h
      go_enter Try.func43, Try.ntmps43
      go_wp2_with fail
      rw [← hW1]
      go_ret
      exact ⟨by rw [he.out]; rfl, B1⟩

end Go.Proofs.Ytndckeodpoommaa
