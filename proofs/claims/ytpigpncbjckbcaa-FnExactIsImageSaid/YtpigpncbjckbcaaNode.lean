/-
  Which nodes are valid: the program's isNode and the model's l1Node.
-/
import Derived.Test.YtpigpncbjckbcaaWords
import Derived.Test.YtpigpncbjckbcaaTrees
namespace Go.Proofs.Ytpigpncbjckbcaa
open Go.RowKit

/-- A node is valid, apart from its items. -/
def nodeOk (k n : Int) (t : ByteArray) (m : Nat) : Bool :=
  if k = 0 then decide (n = 0) && t.toList.isEmpty
  else if k = 1 then decide (n = 0) && (symB t && decide (m = 0))
  else if k = 2 then decide (-999999999 ≤ n ∧ n ≤ 999999999) && (t.toList.isEmpty && decide (m = 0))
  else if k = 3 then decide (0 ≤ n ∧ n ≤ 1) && (t.toList.isEmpty && decide (m = 0))
  else if k = 4 then decide (n = 0) && (txtB t && decide (m = 0))
  else false

set_option maxRecDepth 100000 in
set_option maxHeartbeats 1000000 in
theorem implNode0_any (n : Int) (t : ByteArray) (A : Option Addr) (l : List D) (c : Nat) (w : World) (_ht : t.size ≤ 9223372036854775807) : Calls Try.prog 97 #[.agg #[.int .i64 0, .int .i64 n, .string t, .slice A l.length c]] w fun e w' => e = .returned (.bool (nodeOk 0 n t l.length)) ∧ Below w.heap.size w w' := by
  have K : Hid (nodeOk 0 n t l.length = (decide (n = 0) && t.toList.isEmpty)) := rfl
  by_cases hn : n = 0
  · subst hn
    cases he : t.toList.isEmpty
    · have He := Lib.hid he
      go_enter Try.func97, Try.ntmps97
      go_wp2_with fail
      go_ret
      exact ⟨ret_bool (by rw [K.out]; simp [Nat.le_refl, He.out]), ((Below.refl _ _).alloc (Nat.le_refl _) _)⟩
    · have He := Lib.hid he
      go_enter Try.func97, Try.ntmps97
      go_wp2_with fail
      go_ret
      exact ⟨ret_bool (by rw [K.out]; simp [Nat.le_refl, He.out]), ((Below.refl _ _).alloc (Nat.le_refl _) _)⟩
  · have hn1 : (n == 0) = false := by simpa using hn
    have Hn := Lib.hid hn
    clear hn
    go_enter Try.func97, Try.ntmps97
    go_wp2_with fail
    go_ret
    exact ⟨ret_bool (by rw [K.out]; simp [Hn.out]), ((Below.refl _ _).alloc (Nat.le_refl _) _)⟩

set_option maxRecDepth 100000 in
set_option maxHeartbeats 1000000 in
theorem implNode1_any (n : Int) (t : ByteArray) (A : Option Addr) (l : List D) (c : Nat) (w : World) (_ht : t.size ≤ 9223372036854775807) : Calls Try.prog 97 #[.agg #[.int .i64 1, .int .i64 n, .string t, .slice A l.length c]] w fun e w' => e = .returned (.bool (nodeOk 1 n t l.length)) ∧ Below w.heap.size w w' := by
  have K : Hid (nodeOk 1 n t l.length = (decide (n = 0) && (symB t && decide (l.length = 0)))) := rfl
  by_cases hn : n = 0
  · subst hn
    go_enter Try.func97, Try.ntmps97
    go_wp2_with fail
    refine (implSymbol_any _ _).mono ?_
    rintro e w1 ⟨rfl, hb⟩
    obtain ⟨g0, g1, g2, g3⟩ := D.Box.below (D.Box.new w (.mk 1 0 t A c l) 51) hb (by simp)
    simp only [D.l, D.A, D.c, D.k, D.n, D.t] at g0 g1 g2 g3
    cases hs : symB t
    · have Hs := Lib.hid hs
      go_wp2_with fail
      go_ret
      exact ⟨ret_bool (by rw [K.out]; simp [Hs.out]), ((Below.refl _ _).alloc (Nat.le_refl _) _).trans (hb.mono (by simp))⟩
    · have Hs := Lib.hid hs
      by_cases hm : l.length = 0
      · have hm1 : ((l.length : Nat) : Int) = 0 := by omega
        have hm2 : (((l.length : Nat) : Int) == 0) = true := by simp [hm]
        have Hm := Lib.hid hm
        clear hm hm1
        go_wp2_with fail
        go_ret
        exact ⟨ret_bool (by rw [K.out]; simp [Hs.out, Hm.out]), ((Below.refl _ _).alloc (Nat.le_refl _) _).trans (hb.mono (by simp))⟩
      · have hm2 : (((l.length : Nat) : Int) == 0) = false := by simpa using hm
        have Hm := Lib.hid hm
        clear hm
        go_wp2_with fail
        go_ret
        exact ⟨ret_bool (by rw [K.out]; simp [Hs.out, Hm.out]), ((Below.refl _ _).alloc (Nat.le_refl _) _).trans (hb.mono (by simp))⟩
  · have hn1 : (n == 0) = false := by simpa using hn
    have Hn := Lib.hid hn
    clear hn
    go_enter Try.func97, Try.ntmps97
    go_wp2_with fail
    go_ret
    exact ⟨ret_bool (by rw [K.out]; simp [Hn.out]), ((Below.refl _ _).alloc (Nat.le_refl _) _)⟩

set_option maxRecDepth 100000 in
set_option maxHeartbeats 1000000 in
theorem implNode4_any (n : Int) (t : ByteArray) (A : Option Addr) (l : List D) (c : Nat) (w : World) (_ht : t.size ≤ 9223372036854775807) : Calls Try.prog 97 #[.agg #[.int .i64 4, .int .i64 n, .string t, .slice A l.length c]] w fun e w' => e = .returned (.bool (nodeOk 4 n t l.length)) ∧ Below w.heap.size w w' := by
  have K : Hid (nodeOk 4 n t l.length = (decide (n = 0) && (txtB t && decide (l.length = 0)))) := rfl
  by_cases hn : n = 0
  · subst hn
    go_enter Try.func97, Try.ntmps97
    go_wp2_with fail
    refine (implText_any _ _).mono ?_
    rintro e w1 ⟨rfl, hb⟩
    obtain ⟨g0, g1, g2, g3⟩ := D.Box.below (D.Box.new w (.mk 4 0 t A c l) 51) hb (by simp)
    simp only [D.l, D.A, D.c, D.k, D.n, D.t] at g0 g1 g2 g3
    cases hs : txtB t
    · have Hs := Lib.hid hs
      go_wp2_with fail
      go_ret
      exact ⟨ret_bool (by rw [K.out]; simp [Hs.out]), ((Below.refl _ _).alloc (Nat.le_refl _) _).trans (hb.mono (by simp))⟩
    · have Hs := Lib.hid hs
      by_cases hm : l.length = 0
      · have hm1 : ((l.length : Nat) : Int) = 0 := by omega
        have hm2 : (((l.length : Nat) : Int) == 0) = true := by simp [hm]
        have Hm := Lib.hid hm
        clear hm hm1
        go_wp2_with fail
        go_ret
        exact ⟨ret_bool (by rw [K.out]; simp [Hs.out, Hm.out]), ((Below.refl _ _).alloc (Nat.le_refl _) _).trans (hb.mono (by simp))⟩
      · have hm2 : (((l.length : Nat) : Int) == 0) = false := by simpa using hm
        have Hm := Lib.hid hm
        clear hm
        go_wp2_with fail
        go_ret
        exact ⟨ret_bool (by rw [K.out]; simp [Hs.out, Hm.out]), ((Below.refl _ _).alloc (Nat.le_refl _) _).trans (hb.mono (by simp))⟩
  · have hn1 : (n == 0) = false := by simpa using hn
    have Hn := Lib.hid hn
    clear hn
    go_enter Try.func97, Try.ntmps97
    go_wp2_with fail
    go_ret
    exact ⟨ret_bool (by rw [K.out]; simp [Hn.out]), ((Below.refl _ _).alloc (Nat.le_refl _) _)⟩

set_option maxRecDepth 100000 in
set_option maxHeartbeats 1000000 in
theorem implNode2_any (n : Int) (t : ByteArray) (A : Option Addr) (l : List D) (c : Nat) (w : World) (_ht : t.size ≤ 9223372036854775807) : Calls Try.prog 97 #[.agg #[.int .i64 2, .int .i64 n, .string t, .slice A l.length c]] w fun e w' => e = .returned (.bool (nodeOk 2 n t l.length)) ∧ Below w.heap.size w w' := by
  have K : Hid (nodeOk 2 n t l.length = (decide (-999999999 ≤ n ∧ n ≤ 999999999) && (t.toList.isEmpty && decide (l.length = 0)))) := rfl
  go_enter Try.func97, Try.ntmps97
  go_wp2_with fail
  refine (isNumber_any _ _).mono ?_
  rintro e w1 ⟨rfl, rfl⟩
  generalize hr : decide (-999999999 ≤ n ∧ n ≤ 999999999) = r at *
  cases r
  · go_wp2_with fail
    go_ret
    exact ⟨ret_bool (by rw [K.out]; simp), ((Below.refl _ _).alloc (Nat.le_refl _) _)⟩
  · 
    cases he : t.toList.isEmpty
    · have He := Lib.hid he
      go_wp2_with fail
      go_ret
      exact ⟨ret_bool (by rw [K.out]; simp [Nat.le_refl, He.out]), ((Below.refl _ _).alloc (Nat.le_refl _) _)⟩
    · have He := Lib.hid he
      by_cases hm : l.length = 0
      · have hm1 : ((l.length : Nat) : Int) = 0 := by omega
        have hm2 : (((l.length : Nat) : Int) == 0) = true := by simp [hm]
        have Hm := Lib.hid hm
        clear hm hm1
        go_wp2_with fail
        go_ret
        exact ⟨ret_bool (by rw [K.out]; simp [Nat.le_refl, He.out, Hm.out]), ((Below.refl _ _).alloc (Nat.le_refl _) _)⟩
      · have hm2 : (((l.length : Nat) : Int) == 0) = false := by simpa using hm
        have Hm := Lib.hid hm
        clear hm
        go_wp2_with fail
        go_ret
        exact ⟨ret_bool (by rw [K.out]; simp [Nat.le_refl, He.out, Hm.out]), ((Below.refl _ _).alloc (Nat.le_refl _) _)⟩

set_option maxRecDepth 100000 in
set_option maxHeartbeats 1000000 in
theorem implNode3_any (n : Int) (t : ByteArray) (A : Option Addr) (l : List D) (c : Nat) (w : World) (_ht : t.size ≤ 9223372036854775807) : Calls Try.prog 97 #[.agg #[.int .i64 3, .int .i64 n, .string t, .slice A l.length c]] w fun e w' => e = .returned (.bool (nodeOk 3 n t l.length)) ∧ Below w.heap.size w w' := by
  have K : Hid (nodeOk 3 n t l.length = (decide (0 ≤ n ∧ n ≤ 1) && (t.toList.isEmpty && decide (l.length = 0)))) := rfl
  by_cases hn : n = 0
  · subst hn
    cases he : t.toList.isEmpty
    · have He := Lib.hid he
      go_enter Try.func97, Try.ntmps97
      go_wp2_with fail
      go_ret
      exact ⟨ret_bool (by rw [K.out]; simp [Nat.le_refl, He.out]), ((Below.refl _ _).alloc (Nat.le_refl _) _)⟩
    · have He := Lib.hid he
      by_cases hm : l.length = 0
      · have hm1 : ((l.length : Nat) : Int) = 0 := by omega
        have hm2 : (((l.length : Nat) : Int) == 0) = true := by simp [hm]
        have Hm := Lib.hid hm
        clear hm hm1
        go_enter Try.func97, Try.ntmps97
        go_wp2_with fail
        go_ret
        exact ⟨ret_bool (by rw [K.out]; simp [Nat.le_refl, He.out, Hm.out]), ((Below.refl _ _).alloc (Nat.le_refl _) _)⟩
      · have hm2 : (((l.length : Nat) : Int) == 0) = false := by simpa using hm
        have Hm := Lib.hid hm
        clear hm
        go_enter Try.func97, Try.ntmps97
        go_wp2_with fail
        go_ret
        exact ⟨ret_bool (by rw [K.out]; simp [Nat.le_refl, He.out, Hm.out]), ((Below.refl _ _).alloc (Nat.le_refl _) _)⟩
  · by_cases hn1 : n = 1
    · subst hn1
      cases he : t.toList.isEmpty
      · have He := Lib.hid he
        go_enter Try.func97, Try.ntmps97
        go_wp2_with fail
        go_ret
        exact ⟨ret_bool (by rw [K.out]; simp [He.out]), ((Below.refl _ _).alloc (Nat.le_refl _) _)⟩
      · have He := Lib.hid he
        by_cases hm : l.length = 0
        · have hm1 : ((l.length : Nat) : Int) = 0 := by omega
          have hm2 : (((l.length : Nat) : Int) == 0) = true := by simp [hm]
          have Hm := Lib.hid hm
          clear hm hm1
          go_enter Try.func97, Try.ntmps97
          go_wp2_with fail
          go_ret
          exact ⟨ret_bool (by rw [K.out]; simp [Nat.le_refl, He.out, Hm.out]), ((Below.refl _ _).alloc (Nat.le_refl _) _)⟩
        · have hm2 : (((l.length : Nat) : Int) == 0) = false := by simpa using hm
          have Hm := Lib.hid hm
          clear hm
          go_enter Try.func97, Try.ntmps97
          go_wp2_with fail
          go_ret
          exact ⟨ret_bool (by rw [K.out]; simp [Nat.le_refl, He.out, Hm.out]), ((Below.refl _ _).alloc (Nat.le_refl _) _)⟩
    · have a1 : (n == 0) = false := by simpa using hn
      have a2 : (n == 1) = false := by simpa using hn1
      have Hn : Hid (decide (0 ≤ n ∧ n ≤ 1) = false) := by show _ = _; simp; omega
      clear hn hn1
      go_enter Try.func97, Try.ntmps97
      go_wp2_with fail
      go_ret
      exact ⟨ret_bool (by rw [K.out, Hn.out]; rfl), ((Below.refl _ _).alloc (Nat.le_refl _) _)⟩

set_option maxRecDepth 100000 in
set_option maxHeartbeats 1000000 in
theorem implNode_any (k n : Int) (t : ByteArray) (A : Option Addr) (l : List D) (c : Nat) (w : World) (ht : t.size ≤ 9223372036854775807) : Calls Try.prog 97 #[.agg #[.int .i64 k, .int .i64 n, .string t, .slice A l.length c]] w (fun e w' => e = .returned (.bool (nodeOk k n t l.length)) ∧ Below w.heap.size w w') := by
  by_cases h0 : k = 0
  · subst h0; exact implNode0_any n t A l c w ht
  by_cases h1 : k = 1
  · subst h1; exact implNode1_any n t A l c w ht
  by_cases h2 : k = 2
  · subst h2; exact implNode2_any n t A l c w ht
  by_cases h3 : k = 3
  · subst h3; exact implNode3_any n t A l c w ht
  by_cases h4 : k = 4
  · subst h4; exact implNode4_any n t A l c w ht
  have K : Hid (nodeOk k n t l.length = false) := by show _ = _; simp [nodeOk, h0, h1, h2, h3, h4]
  have a0 : (k == 0) = false := by simpa using h0
  have a1 : (k == 1) = false := by simpa using h1
  have a2 : (k == 2) = false := by simpa using h2
  have a3 : (k == 3) = false := by simpa using h3
  have a4 : (k == 4) = false := by simpa using h4
  clear h0 h1 h2 h3 h4
  go_enter Try.func97, Try.ntmps97
  go_wp2_with fail
  go_ret
  exact ⟨ret_bool K.out.symm, ((Below.refl _ _).alloc (Nat.le_refl _) _)⟩

set_option maxRecDepth 100000 in
set_option maxHeartbeats 1000000 in
theorem specNode0_any (n : Int) (t : ByteArray) (m : Nat) (w : World) (_ht : t.size ≤ 9223372036854775807) : Calls Try.prog 89 #[.int .i64 0, .int .i64 n, .string t, .int .i64 m] w fun e w' => e = .returned (.bool (nodeOk 0 n t m)) ∧ w = w' := by
  have K : Hid (nodeOk 0 n t m = (decide (n = 0) && t.toList.isEmpty)) := rfl
  by_cases hn : n = 0
  · subst hn
    cases he : t.toList.isEmpty
    · have He := Lib.hid he
      go_enter Try.func89, Try.ntmps89
      go_wp2_with fail
      go_ret
      exact ⟨ret_bool (by rw [K.out]; simp [Nat.le_refl, He.out]), rfl⟩
    · have He := Lib.hid he
      go_enter Try.func89, Try.ntmps89
      go_wp2_with fail
      go_ret
      exact ⟨ret_bool (by rw [K.out]; simp [Nat.le_refl, He.out]), rfl⟩
  · have hn1 : (n == 0) = false := by simpa using hn
    have Hn := Lib.hid hn
    clear hn
    go_enter Try.func89, Try.ntmps89
    go_wp2_with fail
    go_ret
    exact ⟨ret_bool (by rw [K.out]; simp [Hn.out]), rfl⟩

set_option maxRecDepth 100000 in
set_option maxHeartbeats 1000000 in
theorem specNode1_any (n : Int) (t : ByteArray) (m : Nat) (w : World) (_ht : t.size ≤ 9223372036854775807) : Calls Try.prog 89 #[.int .i64 1, .int .i64 n, .string t, .int .i64 m] w fun e w' => e = .returned (.bool (nodeOk 1 n t m)) ∧ w = w' := by
  have K : Hid (nodeOk 1 n t m = (decide (n = 0) && (symB t && decide (m = 0)))) := rfl
  by_cases hn : n = 0
  · subst hn
    go_enter Try.func89, Try.ntmps89
    go_wp2_with fail
    refine (specSymbol_any _ _).mono ?_
    rintro e w1 ⟨rfl, rfl⟩
    cases hs : symB t
    · have Hs := Lib.hid hs
      go_wp2_with fail
      go_ret
      exact ⟨ret_bool (by rw [K.out]; simp [Hs.out]), rfl⟩
    · have Hs := Lib.hid hs
      by_cases hm : m = 0
      · have hm1 : ((m : Nat) : Int) = 0 := by omega
        have hm2 : (((m : Nat) : Int) == 0) = true := by simp [hm]
        have Hm := Lib.hid hm
        clear hm hm1
        go_wp2_with fail
        go_ret
        exact ⟨ret_bool (by rw [K.out]; simp [Hs.out, Hm.out]), rfl⟩
      · have hm2 : (((m : Nat) : Int) == 0) = false := by simpa using hm
        have Hm := Lib.hid hm
        clear hm
        go_wp2_with fail
        go_ret
        exact ⟨ret_bool (by rw [K.out]; simp [Hs.out, Hm.out]), rfl⟩
  · have hn1 : (n == 0) = false := by simpa using hn
    have Hn := Lib.hid hn
    clear hn
    go_enter Try.func89, Try.ntmps89
    go_wp2_with fail
    go_ret
    exact ⟨ret_bool (by rw [K.out]; simp [Hn.out]), rfl⟩

set_option maxRecDepth 100000 in
set_option maxHeartbeats 1000000 in
theorem specNode4_any (n : Int) (t : ByteArray) (m : Nat) (w : World) (ht : t.size ≤ 9223372036854775807) : Calls Try.prog 89 #[.int .i64 4, .int .i64 n, .string t, .int .i64 m] w fun e w' => e = .returned (.bool (nodeOk 4 n t m)) ∧ w = w' := by
  have K : Hid (nodeOk 4 n t m = (decide (n = 0) && (txtB t && decide (m = 0)))) := rfl
  by_cases hn : n = 0
  · subst hn
    go_enter Try.func89, Try.ntmps89
    go_wp2_with fail
    refine (specText_any _ _ ht).mono ?_
    rintro e w1 ⟨rfl, rfl⟩
    cases hs : txtB t
    · have Hs := Lib.hid hs
      go_wp2_with fail
      go_ret
      exact ⟨ret_bool (by rw [K.out]; simp [Hs.out]), rfl⟩
    · have Hs := Lib.hid hs
      by_cases hm : m = 0
      · have hm1 : ((m : Nat) : Int) = 0 := by omega
        have hm2 : (((m : Nat) : Int) == 0) = true := by simp [hm]
        have Hm := Lib.hid hm
        clear hm hm1
        go_wp2_with fail
        go_ret
        exact ⟨ret_bool (by rw [K.out]; simp [Hs.out, Hm.out]), rfl⟩
      · have hm2 : (((m : Nat) : Int) == 0) = false := by simpa using hm
        have Hm := Lib.hid hm
        clear hm
        go_wp2_with fail
        go_ret
        exact ⟨ret_bool (by rw [K.out]; simp [Hs.out, Hm.out]), rfl⟩
  · have hn1 : (n == 0) = false := by simpa using hn
    have Hn := Lib.hid hn
    clear hn
    go_enter Try.func89, Try.ntmps89
    go_wp2_with fail
    go_ret
    exact ⟨ret_bool (by rw [K.out]; simp [Hn.out]), rfl⟩

set_option maxRecDepth 100000 in
set_option maxHeartbeats 1000000 in
theorem specNode2_any (n : Int) (t : ByteArray) (m : Nat) (w : World) (_ht : t.size ≤ 9223372036854775807) : Calls Try.prog 89 #[.int .i64 2, .int .i64 n, .string t, .int .i64 m] w fun e w' => e = .returned (.bool (nodeOk 2 n t m)) ∧ w = w' := by
  have K : Hid (nodeOk 2 n t m = (decide (-999999999 ≤ n ∧ n ≤ 999999999) && (t.toList.isEmpty && decide (m = 0)))) := rfl
  go_enter Try.func89, Try.ntmps89
  go_wp2_with fail
  refine (l1In_any _ _ _ _).mono ?_
  rintro e w1 ⟨rfl, rfl⟩
  generalize hr : decide (-999999999 ≤ n ∧ n ≤ 999999999) = r at *
  cases r
  · go_wp2_with fail
    go_ret
    exact ⟨ret_bool (by rw [K.out]; simp [Nat.le_refl]), rfl⟩
  · 
    cases he : t.toList.isEmpty
    · have He := Lib.hid he
      go_wp2_with fail
      go_ret
      exact ⟨ret_bool (by rw [K.out]; simp [Nat.le_refl, He.out]), rfl⟩
    · have He := Lib.hid he
      by_cases hm : m = 0
      · have hm1 : ((m : Nat) : Int) = 0 := by omega
        have hm2 : (((m : Nat) : Int) == 0) = true := by simp [hm]
        have Hm := Lib.hid hm
        clear hm hm1
        go_wp2_with fail
        go_ret
        exact ⟨ret_bool (by rw [K.out]; simp [Nat.le_refl, He.out, Hm.out]), rfl⟩
      · have hm2 : (((m : Nat) : Int) == 0) = false := by simpa using hm
        have Hm := Lib.hid hm
        clear hm
        go_wp2_with fail
        go_ret
        exact ⟨ret_bool (by rw [K.out]; simp [Nat.le_refl, He.out, Hm.out]), rfl⟩

set_option maxRecDepth 100000 in
set_option maxHeartbeats 1000000 in
theorem specNode3_any (n : Int) (t : ByteArray) (m : Nat) (w : World) (_ht : t.size ≤ 9223372036854775807) : Calls Try.prog 89 #[.int .i64 3, .int .i64 n, .string t, .int .i64 m] w fun e w' => e = .returned (.bool (nodeOk 3 n t m)) ∧ w = w' := by
  have K : Hid (nodeOk 3 n t m = (decide (0 ≤ n ∧ n ≤ 1) && (t.toList.isEmpty && decide (m = 0)))) := rfl
  go_enter Try.func89, Try.ntmps89
  go_wp2_with fail
  refine (l1In_any _ _ _ _).mono ?_
  rintro e w1 ⟨rfl, rfl⟩
  generalize hr : decide (0 ≤ n ∧ n ≤ 1) = r at *
  cases r
  · go_wp2_with fail
    go_ret
    exact ⟨ret_bool (by rw [K.out]; simp [Nat.le_refl]), rfl⟩
  · 
    cases he : t.toList.isEmpty
    · have He := Lib.hid he
      go_wp2_with fail
      go_ret
      exact ⟨ret_bool (by rw [K.out]; simp [Nat.le_refl, He.out]), rfl⟩
    · have He := Lib.hid he
      by_cases hm : m = 0
      · have hm1 : ((m : Nat) : Int) = 0 := by omega
        have hm2 : (((m : Nat) : Int) == 0) = true := by simp [hm]
        have Hm := Lib.hid hm
        clear hm hm1
        go_wp2_with fail
        go_ret
        exact ⟨ret_bool (by rw [K.out]; simp [Nat.le_refl, He.out, Hm.out]), rfl⟩
      · have hm2 : (((m : Nat) : Int) == 0) = false := by simpa using hm
        have Hm := Lib.hid hm
        clear hm
        go_wp2_with fail
        go_ret
        exact ⟨ret_bool (by rw [K.out]; simp [Nat.le_refl, He.out, Hm.out]), rfl⟩

set_option maxRecDepth 100000 in
set_option maxHeartbeats 1000000 in
theorem specNode_any (k n : Int) (t : ByteArray) (m : Nat) (w : World) (ht : t.size ≤ 9223372036854775807) : Calls Try.prog 89 #[.int .i64 k, .int .i64 n, .string t, .int .i64 m] w (fun e w' => e = .returned (.bool (nodeOk k n t m)) ∧ w = w') := by
  by_cases h0 : k = 0
  · subst h0; exact specNode0_any n t m w ht
  by_cases h1 : k = 1
  · subst h1; exact specNode1_any n t m w ht
  by_cases h2 : k = 2
  · subst h2; exact specNode2_any n t m w ht
  by_cases h3 : k = 3
  · subst h3; exact specNode3_any n t m w ht
  by_cases h4 : k = 4
  · subst h4; exact specNode4_any n t m w ht
  have K : Hid (nodeOk k n t m = false) := by show _ = _; simp [nodeOk, h0, h1, h2, h3, h4]
  have a0 : (k == 0) = false := by simpa using h0
  have a1 : (k == 1) = false := by simpa using h1
  have a2 : (k == 2) = false := by simpa using h2
  have a3 : (k == 3) = false := by simpa using h3
  have a4 : (k == 4) = false := by simpa using h4
  clear h0 h1 h2 h3 h4
  go_enter Try.func89, Try.ntmps89
  go_wp2_with fail
  go_ret
  exact ⟨ret_bool K.out.symm, rfl⟩
end Go.Proofs.Ytpigpncbjckbcaa
