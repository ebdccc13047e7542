/-
  Values: what is one where there are so many pairs; the model's l8Value (written by gen/valu.py).
-/
import Derived.Test.YtnldlbglgalbaabVuB
import Derived.Test.YtnldlbglgalbaabPqB
import Derived.Test.YtnldlbglgalbaabIsD
import Derived.Test.YtnldlbglgalbaabWords
import Derived.Test.YtnldlbglgalbaabNames
import Derived.Deep.DeepCutAuto
namespace Go.Proofs.Ytnldlbglgalbaab
open Go.RowKit

namespace Vu
/-- The kind of the datum that has a value of this kind. -/
def kd (k : Int) : Int := if k = 1 then 0 else if k = 4 then 1 else if k = 3 then 2 else if k = 2 then 3 else if k = 5 then 4 else -1
/-- How many numbers the other values have. -/
def cnt (k p : Int) : Int := if k = 0 then 1 else if k = 6 then 14 else if k = 7 then p else if k = 8 ∨ k = 9 then 2001 else 0
/-- A value where there are p pairs. -/
def okv (k n : Int) (t : ByteArray) (p : Int) : Bool := if 0 ≤ kd k then nodeOk (kd k) n t 0 else decide (0 ≤ n ∧ n < cnt k p) && t.toList.isEmpty
def ok (v : Vu) (p : Int) : Bool := okv v.k v.n v.t p
end Vu
/-- Pairs of which each has values with smaller pairs. -/
def Pq.okF : List Pq → Int → Bool | [], _ => true | x :: r, i => (x.h.ok i && x.u.ok i) && Pq.okF r (i + 1)
def Pq.okL (l : List Pq) : Bool := Pq.okF l 0 && decide (l.length ≤ 2000)
theorem drew_curv {w0 w wn : World} (hcur : Below w0.heap.size w0 w) (hbn : Below w.drew.heap.size w.drew wn) (zl : w0.heap.size < w.heap.size) : Below w0.heap.size w0 wn ∧ ∀ o v, w.cell? ⟨w0.heap.size, o, none⟩ = some v → wn.cell? ⟨w0.heap.size, o, none⟩ = some v := by
  have hb : Below w.heap.size w wn := below_undrew hbn
  exact ⟨hcur.trans (hb.mono (Nat.le_of_lt zl)), fun o v h => (hb.cell (p := ⟨w0.heap.size, o, none⟩) zl).trans h⟩
theorem sprimN_v (w : World) : Calls Try.prog 30 #[] w fun e w' => ∃ (A : Option Addr) (c : Nat), e = .returned (.slice A 14 c) ∧ Below w.heap.size w w' :=
  (sprimN_any w).mono fun _ _ ⟨A, c, he, _, hb⟩ => ⟨A, c, he, hb⟩
theorem iprimN_v (w : World) : Calls Try.prog 41 #[] w fun e w' => ∃ (A : Option Addr) (c : Nat), e = .returned (.slice A 14 c) ∧ Below w.heap.size w w' :=
  (iprimN_any w).mono fun _ _ ⟨A, c, he, _, hb⟩ => ⟨A, c, he, hb⟩
theorem isEmpty_beq (l : List UInt8) : (l == []) = l.isEmpty := by cases l <;> rfl

set_option maxRecDepth 100000 in
set_option maxHeartbeats 2000000 in
theorem l8V0_any (n : Int) (t : ByteArray) (p : Int) (w : World) (ht : t.size ≤ 9223372036854775807) : Calls Try.prog 17 #[.agg #[.int .i64 0, .int .i64 n, .string t], .int .i64 p] w fun e w' => e = .returned (.bool (Vu.okv 0 n t p)) ∧ Below w.heap.size w w' := by
  have K : Hid (Vu.okv 0 n t p = (decide (0 ≤ n ∧ n < 1) && t.toList.isEmpty)) := rfl
  have bA : Below w.heap.size w (w.alloc (.cells #[.int .i64 0, .int .i64 n, .string t] 27)) := (Below.refl _ _).alloc (Nat.le_refl _) _
  by_cases hn : n = 0
  · subst hn
    cases he : t.toList.isEmpty
    · have He := Lib.hid he
      have he2 : (t.toList == []) = false := by rw [isEmpty_beq]; exact he
      clear he
      go_enter Try.func17, Try.ntmps17
      go_wp2_with fail
      go_ret
      exact ⟨ret_bool (by rw [K.out, He.out]; rfl), bA⟩
    · have He := Lib.hid he
      have he2 : (t.toList == []) = true := by rw [isEmpty_beq]; exact he
      clear he
      go_enter Try.func17, Try.ntmps17
      go_wp2_with fail
      go_ret
      exact ⟨ret_bool (by rw [K.out, He.out]; rfl), bA⟩
  · have hn1 : (n == 0) = false := by simpa using hn
    have Hn := Lib.hid hn
    clear hn
    go_enter Try.func17, Try.ntmps17
    go_wp2_with fail
    go_ret
    exact ⟨ret_bool (by rw [K.out, decide_eq_false (by have := Hn.out; omega)]; rfl), bA⟩

set_option maxRecDepth 100000 in
set_option maxHeartbeats 2000000 in
theorem l8V1_any (n : Int) (t : ByteArray) (p : Int) (w : World) (ht : t.size ≤ 9223372036854775807) : Calls Try.prog 17 #[.agg #[.int .i64 1, .int .i64 n, .string t], .int .i64 p] w fun e w' => e = .returned (.bool (Vu.okv 1 n t p)) ∧ Below w.heap.size w w' := by
  have K : Hid (Vu.okv 1 n t p = (decide (n = 0) && t.toList.isEmpty)) := rfl
  have bA : Below w.heap.size w (w.alloc (.cells #[.int .i64 1, .int .i64 n, .string t] 27)) := (Below.refl _ _).alloc (Nat.le_refl _) _
  by_cases hn : n = 0
  · subst hn
    cases he : t.toList.isEmpty
    · have He := Lib.hid he
      have he2 : (t.toList == []) = false := by rw [isEmpty_beq]; exact he
      clear he
      go_enter Try.func17, Try.ntmps17
      go_wp2_with fail
      go_ret
      exact ⟨ret_bool (by rw [K.out, He.out]; rfl), bA⟩
    · have He := Lib.hid he
      have he2 : (t.toList == []) = true := by rw [isEmpty_beq]; exact he
      clear he
      go_enter Try.func17, Try.ntmps17
      go_wp2_with fail
      go_ret
      exact ⟨ret_bool (by rw [K.out, He.out]; rfl), bA⟩
  · have hn1 : (n == 0) = false := by simpa using hn
    have Hn := Lib.hid hn
    clear hn
    go_enter Try.func17, Try.ntmps17
    go_wp2_with fail
    go_ret
    exact ⟨ret_bool (by rw [K.out, decide_eq_false (by have := Hn.out; omega)]; rfl), bA⟩

set_option maxRecDepth 100000 in
set_option maxHeartbeats 2000000 in
theorem l8V2_any (n : Int) (t : ByteArray) (p : Int) (w : World) (ht : t.size ≤ 9223372036854775807) : Calls Try.prog 17 #[.agg #[.int .i64 2, .int .i64 n, .string t], .int .i64 p] w fun e w' => e = .returned (.bool (Vu.okv 2 n t p)) ∧ Below w.heap.size w w' := by
  have K : Hid (Vu.okv 2 n t p = (decide (0 ≤ n ∧ n ≤ 1) && (t.toList.isEmpty && decide (0 = 0)))) := rfl
  have bA : Below w.heap.size w (w.alloc (.cells #[.int .i64 2, .int .i64 n, .string t] 27)) := (Below.refl _ _).alloc (Nat.le_refl _) _
  obtain ⟨X, hX⟩ : ∃ X, X = decide (0 ≤ n ∧ n ≤ 1) := ⟨_, rfl⟩
  have HX : Hid (Vu.okv 2 n t p = (X && t.toList.isEmpty)) := by
    show _ = _
    rw [K.out, hX]
    simp
  have hl := fun w => l1In_any n (0) (1) w
  simp only [← hX] at hl
  have HI1 : Hid (decide (0 ≤ n ∧ n ≤ 1) = X) := hX.symm
  clear hX
  go_enter Try.func17, Try.ntmps17
  go_wp2_with fail
  (with_reducible refine (hl _).mono ?_)
  rintro e w2 ⟨rfl, rfl⟩
  cases X
  · have HQ : Hid (Vu.okv 2 n t p = false) := by show _ = _; rw [HX.out]; rfl
    go_wp2_with fail
    go_ret
    exact ⟨ret_bool HQ.out.symm, bA⟩
  · cases he : t.toList.isEmpty
    · have HQ : Hid (Vu.okv 2 n t p = false) := by show _ = _; rw [HX.out, he]; rfl
      have he2 : (t.toList == []) = false := by rw [isEmpty_beq]; exact he
      clear he
      go_wp2_with fail
      go_ret
      exact ⟨ret_bool HQ.out.symm, bA⟩
    · have HQ : Hid (Vu.okv 2 n t p = true) := by show _ = _; rw [HX.out, he]; rfl
      have he2 : (t.toList == []) = true := by rw [isEmpty_beq]; exact he
      clear he
      go_wp2_with fail
      go_ret
      exact ⟨ret_bool HQ.out.symm, bA⟩

set_option maxRecDepth 100000 in
set_option maxHeartbeats 2000000 in
theorem l8V3_any (n : Int) (t : ByteArray) (p : Int) (w : World) (ht : t.size ≤ 9223372036854775807) : Calls Try.prog 17 #[.agg #[.int .i64 3, .int .i64 n, .string t], .int .i64 p] w fun e w' => e = .returned (.bool (Vu.okv 3 n t p)) ∧ Below w.heap.size w w' := by
  have K : Hid (Vu.okv 3 n t p = (decide (-999999999 ≤ n ∧ n ≤ 999999999) && (t.toList.isEmpty && decide (0 = 0)))) := rfl
  have bA : Below w.heap.size w (w.alloc (.cells #[.int .i64 3, .int .i64 n, .string t] 27)) := (Below.refl _ _).alloc (Nat.le_refl _) _
  obtain ⟨X, hX⟩ : ∃ X, X = decide (-999999999 ≤ n ∧ n ≤ 999999999) := ⟨_, rfl⟩
  have HX : Hid (Vu.okv 3 n t p = (X && t.toList.isEmpty)) := by
    show _ = _
    rw [K.out, hX]
    simp
  have hl := fun w => l1In_any n (-999999999) (999999999) w
  simp only [← hX] at hl
  have HI1 : Hid (decide (-999999999 ≤ n ∧ n ≤ 999999999) = X) := hX.symm
  clear hX
  go_enter Try.func17, Try.ntmps17
  go_wp2_with fail
  (with_reducible refine (hl _).mono ?_)
  rintro e w2 ⟨rfl, rfl⟩
  cases X
  · have HQ : Hid (Vu.okv 3 n t p = false) := by show _ = _; rw [HX.out]; rfl
    go_wp2_with fail
    go_ret
    exact ⟨ret_bool HQ.out.symm, bA⟩
  · cases he : t.toList.isEmpty
    · have HQ : Hid (Vu.okv 3 n t p = false) := by show _ = _; rw [HX.out, he]; rfl
      have he2 : (t.toList == []) = false := by rw [isEmpty_beq]; exact he
      clear he
      go_wp2_with fail
      go_ret
      exact ⟨ret_bool HQ.out.symm, bA⟩
    · have HQ : Hid (Vu.okv 3 n t p = true) := by show _ = _; rw [HX.out, he]; rfl
      have he2 : (t.toList == []) = true := by rw [isEmpty_beq]; exact he
      clear he
      go_wp2_with fail
      go_ret
      exact ⟨ret_bool HQ.out.symm, bA⟩

set_option maxRecDepth 100000 in
set_option maxHeartbeats 2000000 in
theorem l8V8_any (n : Int) (t : ByteArray) (p : Int) (w : World) (ht : t.size ≤ 9223372036854775807) : Calls Try.prog 17 #[.agg #[.int .i64 8, .int .i64 n, .string t], .int .i64 p] w fun e w' => e = .returned (.bool (Vu.okv 8 n t p)) ∧ Below w.heap.size w w' := by
  have K : Hid (Vu.okv 8 n t p = (decide (0 ≤ n ∧ n < 2001) && t.toList.isEmpty)) := rfl
  have bA : Below w.heap.size w (w.alloc (.cells #[.int .i64 8, .int .i64 n, .string t] 27)) := (Below.refl _ _).alloc (Nat.le_refl _) _
  obtain ⟨X, hX⟩ : ∃ X, X = decide (0 ≤ n ∧ n ≤ 2000) := ⟨_, rfl⟩
  have HX : Hid (Vu.okv 8 n t p = (X && t.toList.isEmpty)) := by
    show _ = _
    rw [K.out, hX]
    rw [decide_eq_decide.2 (show (0 ≤ n ∧ n < 2001) ↔ (0 ≤ n ∧ n ≤ 2000) by omega)]
  have hl := fun w => l1In_any n (0) (2000) w
  simp only [← hX] at hl
  have HI1 : Hid (decide (0 ≤ n ∧ n ≤ 2000) = X) := hX.symm
  clear hX
  go_enter Try.func17, Try.ntmps17
  go_wp2_with fail
  (with_reducible refine (hl _).mono ?_)
  rintro e w2 ⟨rfl, rfl⟩
  cases X
  · have HQ : Hid (Vu.okv 8 n t p = false) := by show _ = _; rw [HX.out]; rfl
    go_wp2_with fail
    go_ret
    exact ⟨ret_bool HQ.out.symm, bA⟩
  · cases he : t.toList.isEmpty
    · have HQ : Hid (Vu.okv 8 n t p = false) := by show _ = _; rw [HX.out, he]; rfl
      have he2 : (t.toList == []) = false := by rw [isEmpty_beq]; exact he
      clear he
      go_wp2_with fail
      go_ret
      exact ⟨ret_bool HQ.out.symm, bA⟩
    · have HQ : Hid (Vu.okv 8 n t p = true) := by show _ = _; rw [HX.out, he]; rfl
      have he2 : (t.toList == []) = true := by rw [isEmpty_beq]; exact he
      clear he
      go_wp2_with fail
      go_ret
      exact ⟨ret_bool HQ.out.symm, bA⟩

set_option maxRecDepth 100000 in
set_option maxHeartbeats 2000000 in
theorem l8V9_any (n : Int) (t : ByteArray) (p : Int) (w : World) (ht : t.size ≤ 9223372036854775807) : Calls Try.prog 17 #[.agg #[.int .i64 9, .int .i64 n, .string t], .int .i64 p] w fun e w' => e = .returned (.bool (Vu.okv 9 n t p)) ∧ Below w.heap.size w w' := by
  have K : Hid (Vu.okv 9 n t p = (decide (0 ≤ n ∧ n < 2001) && t.toList.isEmpty)) := rfl
  have bA : Below w.heap.size w (w.alloc (.cells #[.int .i64 9, .int .i64 n, .string t] 27)) := (Below.refl _ _).alloc (Nat.le_refl _) _
  obtain ⟨X, hX⟩ : ∃ X, X = decide (0 ≤ n ∧ n ≤ 2000) := ⟨_, rfl⟩
  have HX : Hid (Vu.okv 9 n t p = (X && t.toList.isEmpty)) := by
    show _ = _
    rw [K.out, hX]
    rw [decide_eq_decide.2 (show (0 ≤ n ∧ n < 2001) ↔ (0 ≤ n ∧ n ≤ 2000) by omega)]
  have hl := fun w => l1In_any n (0) (2000) w
  simp only [← hX] at hl
  have HI1 : Hid (decide (0 ≤ n ∧ n ≤ 2000) = X) := hX.symm
  clear hX
  go_enter Try.func17, Try.ntmps17
  go_wp2_with fail
  (with_reducible refine (hl _).mono ?_)
  rintro e w2 ⟨rfl, rfl⟩
  cases X
  · have HQ : Hid (Vu.okv 9 n t p = false) := by show _ = _; rw [HX.out]; rfl
    go_wp2_with fail
    go_ret
    exact ⟨ret_bool HQ.out.symm, bA⟩
  · cases he : t.toList.isEmpty
    · have HQ : Hid (Vu.okv 9 n t p = false) := by show _ = _; rw [HX.out, he]; rfl
      have he2 : (t.toList == []) = false := by rw [isEmpty_beq]; exact he
      clear he
      go_wp2_with fail
      go_ret
      exact ⟨ret_bool HQ.out.symm, bA⟩
    · have HQ : Hid (Vu.okv 9 n t p = true) := by show _ = _; rw [HX.out, he]; rfl
      have he2 : (t.toList == []) = true := by rw [isEmpty_beq]; exact he
      clear he
      go_wp2_with fail
      go_ret
      exact ⟨ret_bool HQ.out.symm, bA⟩

set_option maxRecDepth 100000 in
set_option maxHeartbeats 2000000 in
theorem l8V7_any (n : Int) (t : ByteArray) (p : Int) (w : World) (ht : t.size ≤ 9223372036854775807) (hp : 0 ≤ p ∧ p ≤ 9223372036854775807) : Calls Try.prog 17 #[.agg #[.int .i64 7, .int .i64 n, .string t], .int .i64 p] w fun e w' => e = .returned (.bool (Vu.okv 7 n t p)) ∧ Below w.heap.size w w' := by
  have K : Hid (Vu.okv 7 n t p = (decide (0 ≤ n ∧ n < p) && t.toList.isEmpty)) := rfl
  have bA : Below w.heap.size w (w.alloc (.cells #[.int .i64 7, .int .i64 n, .string t] 27)) := (Below.refl _ _).alloc (Nat.le_refl _) _
  have hw1 : wrap64 (p - 1) = p - 1 := by unfold wrap64; omega
  obtain ⟨X, hX⟩ : ∃ X, X = decide (0 ≤ n ∧ n ≤ p - 1) := ⟨_, rfl⟩
  have HX : Hid (Vu.okv 7 n t p = (X && t.toList.isEmpty)) := by
    show _ = _
    rw [K.out, hX]
    rw [decide_eq_decide.2 (show (0 ≤ n ∧ n < p) ↔ (0 ≤ n ∧ n ≤ p - 1) by omega)]
  have hl := fun w => l1In_any n (0) (p - 1) w
  simp only [← hX] at hl
  have HI1 : Hid (decide (0 ≤ n ∧ n ≤ p - 1) = X) := hX.symm
  clear hX
  go_enter Try.func17, Try.ntmps17
  go_wp2_with fail
  (with_reducible refine (hl _).mono ?_)
  rintro e w2 ⟨rfl, rfl⟩
  cases X
  · have HQ : Hid (Vu.okv 7 n t p = false) := by show _ = _; rw [HX.out]; rfl
    go_wp2_with fail
    go_ret
    exact ⟨ret_bool HQ.out.symm, bA⟩
  · cases he : t.toList.isEmpty
    · have HQ : Hid (Vu.okv 7 n t p = false) := by show _ = _; rw [HX.out, he]; rfl
      have he2 : (t.toList == []) = false := by rw [isEmpty_beq]; exact he
      clear he
      go_wp2_with fail
      go_ret
      exact ⟨ret_bool HQ.out.symm, bA⟩
    · have HQ : Hid (Vu.okv 7 n t p = true) := by show _ = _; rw [HX.out, he]; rfl
      have he2 : (t.toList == []) = true := by rw [isEmpty_beq]; exact he
      clear he
      go_wp2_with fail
      go_ret
      exact ⟨ret_bool HQ.out.symm, bA⟩

set_option maxRecDepth 100000 in
set_option maxHeartbeats 2000000 in
theorem l8V6_any (n : Int) (t : ByteArray) (p : Int) (w : World) (ht : t.size ≤ 9223372036854775807) : Calls Try.prog 17 #[.agg #[.int .i64 6, .int .i64 n, .string t], .int .i64 p] w fun e w' => e = .returned (.bool (Vu.okv 6 n t p)) ∧ Below w.heap.size w w' := by
  have K : Hid (Vu.okv 6 n t p = (decide (0 ≤ n ∧ n < 14) && t.toList.isEmpty)) := rfl
  have bA : Below w.heap.size w (w.alloc (.cells #[.int .i64 6, .int .i64 n, .string t] 27)) := (Below.refl _ _).alloc (Nat.le_refl _) _
  obtain ⟨X, hX⟩ : ∃ X, X = decide (0 ≤ n ∧ n ≤ 13) := ⟨_, rfl⟩
  have HX : Hid (Vu.okv 6 n t p = (X && t.toList.isEmpty)) := by
    show _ = _
    rw [K.out, hX]
    rw [decide_eq_decide.2 (show (0 ≤ n ∧ n < 14) ↔ (0 ≤ n ∧ n ≤ 13) by omega)]
  have hl := fun w => l1In_any n (0) (13) w
  simp only [← hX] at hl
  have HI1 : Hid (decide (0 ≤ n ∧ n ≤ 13) = X) := hX.symm
  clear hX
  obtain ⟨W1, hW1⟩ : ∃ W1, W1 = w.alloc (.cells #[.int .i64 6, .int .i64 n, .string t] 27) := ⟨_, rfl⟩
  rw [← hW1] at bA
  have zl : w.heap.size < W1.heap.size := by rw [hW1]; simp
  have X1 : Vu.Box W1 w.heap.size ⟨6, n, t⟩ := by rw [hW1]; exact Vu.Box.new w ⟨6, n, t⟩ _
  obtain ⟨a0, a1, a2⟩ := X1
  simp only at a0 a1 a2
  have hcur := bA
  clear bA
  cases X
  · have HQ : Hid (Vu.okv 6 n t p = false) := by show _ = _; rw [HX.out]; rfl
    go_enter Try.func17, Try.ntmps17
    go_upto_region 1 with fail
    rw [← hW1]
    clear hW1
    go_wp2_with fail
    first | go_region_law (first | (go_simp; go_at_call 30; with_reducible refine (sprimN_v _).mono ?_; rintro e wn ⟨Ap, cp, rfl, hbn⟩; obtain ⟨hcur, hcell⟩ := drew_curv hcur hbn zl; have a1 := hcell 1 _ a1; have a2 := hcell 2 _ a2) | (go_simp; go_at_call 29; with_reducible refine (l1In_any _ _ _ _).mono ?_; rintro e wn2 ⟨rfl, hwn⟩; obtain rfl := hwn; rw [show IntKind.i64.wrap 13 = 13 from by decide, HI1.out])) | fail
    all_goals go_wp2_with fail
    all_goals go_ret
    all_goals exact ⟨ret_bool HQ.out.symm, by first | exact hcur | exact hcur.drew⟩
  · cases he : t.toList.isEmpty
    · have HQ : Hid (Vu.okv 6 n t p = false) := by show _ = _; rw [HX.out, he]; rfl
      have he2 : (t.toList == []) = false := by rw [isEmpty_beq]; exact he
      clear he
      go_enter Try.func17, Try.ntmps17
      go_upto_region 1 with fail
      rw [← hW1]
      clear hW1
      go_wp2_with fail
      first | go_region_law (first | (go_simp; go_at_call 30; with_reducible refine (sprimN_v _).mono ?_; rintro e wn ⟨Ap, cp, rfl, hbn⟩; obtain ⟨hcur, hcell⟩ := drew_curv hcur hbn zl; have a1 := hcell 1 _ a1; have a2 := hcell 2 _ a2) | (go_simp; go_at_call 29; with_reducible refine (l1In_any _ _ _ _).mono ?_; rintro e wn2 ⟨rfl, hwn⟩; obtain rfl := hwn; rw [show IntKind.i64.wrap 13 = 13 from by decide, HI1.out])) | fail
      all_goals go_wp2_with fail
      all_goals go_ret
      all_goals exact ⟨ret_bool HQ.out.symm, by first | exact hcur | exact hcur.drew⟩
    · have HQ : Hid (Vu.okv 6 n t p = true) := by show _ = _; rw [HX.out, he]; rfl
      have he2 : (t.toList == []) = true := by rw [isEmpty_beq]; exact he
      clear he
      go_enter Try.func17, Try.ntmps17
      go_upto_region 1 with fail
      rw [← hW1]
      clear hW1
      go_wp2_with fail
      first | go_region_law (first | (go_simp; go_at_call 30; with_reducible refine (sprimN_v _).mono ?_; rintro e wn ⟨Ap, cp, rfl, hbn⟩; obtain ⟨hcur, hcell⟩ := drew_curv hcur hbn zl; have a1 := hcell 1 _ a1; have a2 := hcell 2 _ a2) | (go_simp; go_at_call 29; with_reducible refine (l1In_any _ _ _ _).mono ?_; rintro e wn2 ⟨rfl, hwn⟩; obtain rfl := hwn; rw [show IntKind.i64.wrap 13 = 13 from by decide, HI1.out])) | fail
      all_goals go_wp2_with fail
      all_goals go_ret
      all_goals exact ⟨ret_bool HQ.out.symm, by first | exact hcur | exact hcur.drew⟩

set_option maxRecDepth 100000 in
set_option maxHeartbeats 2000000 in
theorem l8V4_any (n : Int) (t : ByteArray) (p : Int) (w : World) (ht : t.size ≤ 9223372036854775807) : Calls Try.prog 17 #[.agg #[.int .i64 4, .int .i64 n, .string t], .int .i64 p] w fun e w' => e = .returned (.bool (Vu.okv 4 n t p)) ∧ Below w.heap.size w w' := by
  have K : Hid (Vu.okv 4 n t p = (decide (n = 0) && (symB t && decide (0 = 0)))) := rfl
  have bA : Below w.heap.size w (w.alloc (.cells #[.int .i64 4, .int .i64 n, .string t] 27)) := (Below.refl _ _).alloc (Nat.le_refl _) _
  by_cases hn : n = 0
  · subst hn
    go_enter Try.func17, Try.ntmps17
    go_wp2_with fail
    (with_reducible refine (specSymbol_any t _).mono ?_)
    rintro e w2 ⟨rfl, rfl⟩
    have HQ : Hid (Vu.okv 4 0 t p = symB t) := by show _ = _; rw [K.out]; simp
    go_wp2_with fail
    go_ret
    exact ⟨ret_bool HQ.out.symm, bA⟩
  · have hn1 : (n == 0) = false := by simpa using hn
    have Hn := Lib.hid hn
    clear hn
    go_enter Try.func17, Try.ntmps17
    go_wp2_with fail
    go_ret
    exact ⟨ret_bool (by rw [K.out, decide_eq_false Hn.out]; rfl), bA⟩

set_option maxRecDepth 100000 in
set_option maxHeartbeats 2000000 in
theorem l8V5_any (n : Int) (t : ByteArray) (p : Int) (w : World) (ht : t.size ≤ 9223372036854775807) : Calls Try.prog 17 #[.agg #[.int .i64 5, .int .i64 n, .string t], .int .i64 p] w fun e w' => e = .returned (.bool (Vu.okv 5 n t p)) ∧ Below w.heap.size w w' := by
  have K : Hid (Vu.okv 5 n t p = (decide (n = 0) && (txtB t && decide (0 = 0)))) := rfl
  have bA : Below w.heap.size w (w.alloc (.cells #[.int .i64 5, .int .i64 n, .string t] 27)) := (Below.refl _ _).alloc (Nat.le_refl _) _
  by_cases hn : n = 0
  · subst hn
    go_enter Try.func17, Try.ntmps17
    go_wp2_with fail
    (with_reducible refine (specText_any t _ ht).mono ?_)
    rintro e w2 ⟨rfl, rfl⟩
    have HQ : Hid (Vu.okv 5 0 t p = txtB t) := by show _ = _; rw [K.out]; simp
    go_wp2_with fail
    go_ret
    exact ⟨ret_bool HQ.out.symm, bA⟩
  · have hn1 : (n == 0) = false := by simpa using hn
    have Hn := Lib.hid hn
    clear hn
    go_enter Try.func17, Try.ntmps17
    go_wp2_with fail
    go_ret
    exact ⟨ret_bool (by rw [K.out, decide_eq_false Hn.out]; rfl), bA⟩

set_option maxRecDepth 100000 in
set_option maxHeartbeats 2000000 in
theorem l8Vx_any (k n : Int) (t : ByteArray) (p : Int) (w : World) (hk : ¬ (0 ≤ k ∧ k ≤ 9)) : Calls Try.prog 17 #[.agg #[.int .i64 k, .int .i64 n, .string t], .int .i64 p] w fun e w' => e = .returned (.bool (Vu.okv k n t p)) ∧ Below w.heap.size w w' := by
  have bA : Below w.heap.size w (w.alloc (.cells #[.int .i64 k, .int .i64 n, .string t] 27)) := (Below.refl _ _).alloc (Nat.le_refl _) _
  have K : Hid (Vu.okv k n t p = false) := by
    show _ = _
    have e1 : Vu.kd k = -1 := by unfold Vu.kd; repeat' (first | (rw [if_neg (by omega)]) | rfl)
    have e2 : Vu.cnt k p = 0 := by unfold Vu.cnt; repeat' (first | (rw [if_neg (by omega)]) | rfl)
    unfold Vu.okv
    rw [e1, e2, if_neg (by omega), decide_eq_false (by omega)]
    rfl
  have n0 : (k == 0) = false := by simp; omega
  have n1 : (k == 1) = false := by simp; omega
  have n2 : (k == 2) = false := by simp; omega
  have n3 : (k == 3) = false := by simp; omega
  have n4 : (k == 4) = false := by simp; omega
  have n5 : (k == 5) = false := by simp; omega
  have n6 : (k == 6) = false := by simp; omega
  have n7 : (k == 7) = false := by simp; omega
  have n8 : (k == 8) = false := by simp; omega
  have n9 : (k == 9) = false := by simp; omega
  clear hk
  go_enter Try.func17, Try.ntmps17
  go_wp2_with fail
  go_ret
  exact ⟨ret_bool K.out.symm, bA⟩
theorem l8Value_any (v : Vu) (p : Int) (w : World) (ht : v.t.size ≤ 9223372036854775807) (hp : 0 ≤ p ∧ p ≤ 9223372036854775807) : Calls Try.prog 17 #[Vu.val v, .int .i64 p] w fun e w' => e = .returned (.bool (v.ok p)) ∧ Below w.heap.size w w' := by
  obtain ⟨k, n, t⟩ := v
  by_cases hk : 0 ≤ k ∧ k ≤ 9
  · have hc : k = 0 ∨ k = 1 ∨ k = 2 ∨ k = 3 ∨ k = 4 ∨ k = 5 ∨ k = 6 ∨ k = 7 ∨ k = 8 ∨ k = 9 := by omega
    rcases hc with rfl | rfl | rfl | rfl | rfl | rfl | rfl | rfl | rfl | rfl
    · exact l8V0_any n t p w ht
    · exact l8V1_any n t p w ht
    · exact l8V2_any n t p w ht
    · exact l8V3_any n t p w ht
    · exact l8V4_any n t p w ht
    · exact l8V5_any n t p w ht
    · exact l8V6_any n t p w ht
    · exact l8V7_any n t p w ht hp
    · exact l8V8_any n t p w ht
    · exact l8V9_any n t p w ht
  · exact l8Vx_any k n t p w hk
end Go.Proofs.Ytnldlbglgalbaab
