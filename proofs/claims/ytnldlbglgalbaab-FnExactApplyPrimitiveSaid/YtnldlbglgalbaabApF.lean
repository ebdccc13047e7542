/-
  What a primitive answers; the program's applyPure (written by gen/app6.py).
-/
import Derived.Test.YtnldlbglgalbaabApD
import Derived.Test.YtnldlbglgalbaabApE
namespace Go.Proofs.Ytnldlbglgalbaab
open Go.RowKit
namespace Vu
def zero : Vu := ⟨0, 0, ⟨#[]⟩⟩
def num (n : Int) : Vu := ⟨3, n, ⟨#[]⟩⟩
def boo (b : Bool) : Vu := ⟨2, if b = true then 1 else 0, ⟨#[]⟩⟩
theorem ok_num {v : Vu} {p : Int} (h : v.ok p = true) (hk : v.k = 3) : -999999999 ≤ v.n ∧ v.n ≤ 999999999 := by
  unfold ok at h
  rw [hk] at h
  have e : okv 3 v.n v.t p = (decide (-999999999 ≤ v.n ∧ v.n ≤ 999999999) && (v.t.toList.isEmpty && decide (0 = 0))) := rfl
  rw [e, Bool.and_eq_true] at h
  exact of_decide_eq_true h.1
theorem ok_pair {v : Vu} {p : Int} (h : v.ok p = true) (hk : v.k = 7) : 0 ≤ v.n ∧ v.n < p := by
  unfold ok at h
  rw [hk] at h
  have e : okv 7 v.n v.t p = (decide (0 ≤ v.n ∧ v.n < p) && v.t.toList.isEmpty) := rfl
  rw [e, Bool.and_eq_true] at h
  exact of_decide_eq_true h.1
end Vu
def badP (p : Int) : ByteArray := if p = 0 then ⟨#[43, 58, 32, 98, 97, 100, 32, 97, 114, 103, 117, 109, 101, 110, 116]⟩ else if p = 1 then ⟨#[45, 58, 32, 98, 97, 100, 32, 97, 114, 103, 117, 109, 101, 110, 116]⟩ else if p = 2 then ⟨#[42, 58, 32, 98, 97, 100, 32, 97, 114, 103, 117, 109, 101, 110, 116]⟩ else if p = 3 then ⟨#[61, 58, 32, 98, 97, 100, 32, 97, 114, 103, 117, 109, 101, 110, 116]⟩ else if p = 4 then ⟨#[60, 58, 32, 98, 97, 100, 32, 97, 114, 103, 117, 109, 101, 110, 116]⟩ else if p = 5 then ⟨#[99, 111, 110, 115, 58, 32, 98, 97, 100, 32, 97, 114, 103, 117, 109, 101, 110, 116]⟩ else if p = 6 then ⟨#[99, 97, 114, 58, 32, 98, 97, 100, 32, 97, 114, 103, 117, 109, 101, 110, 116]⟩ else if p = 7 then ⟨#[99, 100, 114, 58, 32, 98, 97, 100, 32, 97, 114, 103, 117, 109, 101, 110, 116]⟩ else ⟨#[]⟩
def twoN (p : Int) (a b : Vu) : Vu := if p = 0 then .num (a.n + b.n) else if p = 1 then .num (a.n - b.n) else if p = 2 then .num (a.n * b.n) else if p = 3 then .boo (a.n == b.n) else .boo (decide (a.n < b.n))
def rawP (p : Int) (l : List Vu) (m : List Pq) : Option Vu :=
  match l with
  | [a, b] => if p = 11 then some (.boo (a.k == b.k && (a.n == b.n && a.t.toList == b.t.toList))) else if a.k = 3 ∧ b.k = 3 then some (twoN p a b) else none
  | [a] => if p = 6 then (if a.k = 7 then (m[a.n.toNat]?).map Pq.h else none) else if p = 7 then (if a.k = 7 then (m[a.n.toNat]?).map Pq.u else none)
    else if p = 8 then some (.boo (a.k == 1)) else if p = 9 then some (.boo (a.k == 7)) else if p = 10 then some (.boo (a.k == 3)) else some (.boo (a.k == 2 && (a.n == 0 && a.t.toList == [])))
  | _ => none
def large : ByteArray := ⟨#[110, 117, 109, 98, 101, 114, 32, 116, 111, 111, 32, 108, 97, 114, 103, 101]⟩
def outP (p : Int) (o : Option Vu) : Vu × ByteArray :=
  match o with
  | none => (.zero, badP p)
  | some v => if v.k = 3 ∧ ¬ (-999999999 ≤ v.n ∧ v.n ≤ 999999999) then (.zero, large) else (v, ⟨#[]⟩)
def ansV (r : Vu × ByteArray) : Value := .tuple #[.agg #[.int .i64 r.1.k, .int .i64 r.1.n, .string r.1.t], .string r.2]
theorem ans_some (p : Int) (v : Vu) : (if v.k = 3 ∧ ¬ (-999999999 ≤ v.n ∧ v.n ≤ 999999999) then .tuple #[.agg #[.int .i64 0, .int .i64 0, .string ⟨#[]⟩], .string ⟨#[110, 117, 109, 98, 101, 114, 32, 116, 111, 111, 32, 108, 97, 114, 103, 101]⟩] else .tuple #[.agg #[.int .i64 v.k, .int .i64 v.n, .string v.t], .string ⟨#[]⟩] : Value) = ansV (outP p (some v)) := by
  unfold outP
  dsimp only
  split
  · rfl
  · rfl
theorem ans_none0 : (.tuple #[.agg #[.int .i64 0, .int .i64 0, .string ⟨#[]⟩], .string ⟨#[43, 58, 32, 98, 97, 100, 32, 97, 114, 103, 117, 109, 101, 110, 116]⟩] : Value) = ansV (outP 0 none) := rfl
theorem ans_none1 : (.tuple #[.agg #[.int .i64 0, .int .i64 0, .string ⟨#[]⟩], .string ⟨#[45, 58, 32, 98, 97, 100, 32, 97, 114, 103, 117, 109, 101, 110, 116]⟩] : Value) = ansV (outP 1 none) := rfl
theorem ans_none2 : (.tuple #[.agg #[.int .i64 0, .int .i64 0, .string ⟨#[]⟩], .string ⟨#[42, 58, 32, 98, 97, 100, 32, 97, 114, 103, 117, 109, 101, 110, 116]⟩] : Value) = ansV (outP 2 none) := rfl
theorem ans_none3 : (.tuple #[.agg #[.int .i64 0, .int .i64 0, .string ⟨#[]⟩], .string ⟨#[61, 58, 32, 98, 97, 100, 32, 97, 114, 103, 117, 109, 101, 110, 116]⟩] : Value) = ansV (outP 3 none) := rfl
theorem ans_none4 : (.tuple #[.agg #[.int .i64 0, .int .i64 0, .string ⟨#[]⟩], .string ⟨#[60, 58, 32, 98, 97, 100, 32, 97, 114, 103, 117, 109, 101, 110, 116]⟩] : Value) = ansV (outP 4 none) := rfl
theorem ans_none6 : (.tuple #[.agg #[.int .i64 0, .int .i64 0, .string ⟨#[]⟩], .string ⟨#[99, 97, 114, 58, 32, 98, 97, 100, 32, 97, 114, 103, 117, 109, 101, 110, 116]⟩] : Value) = ansV (outP 6 none) := rfl
theorem ans_none7 : (.tuple #[.agg #[.int .i64 0, .int .i64 0, .string ⟨#[]⟩], .string ⟨#[99, 100, 114, 58, 32, 98, 97, 100, 32, 97, 114, 103, 117, 109, 101, 110, 116]⟩] : Value) = ansV (outP 7 none) := rfl
set_option maxRecDepth 100000 in
set_option maxHeartbeats 4000000 in
theorem iPure0 (a b : Vu) (m : List Pq) (A A2 : Option Addr) (c c2 B : Nat) (w : World) (hin : Vu.E.LIn w B A c [a, b]) (hl : Pq.E.LIn w B A2 c2 m) (hB : B ≤ w.heap.size) (oa : a.ok m.length = true) (ob : b.ok m.length = true) :
    Calls Try.prog 27 #[.int .i64 0, .slice A 2 c, .slice A2 m.length c2] w fun e w' => e = .returned (ansV (outP 0 (rawP 0 [a, b] m))) ∧ Below w.heap.size w w' := by
  by_cases hk : a.k = 3
  · by_cases hk2 : b.k = 3
    · have e0 : rawP 0 [a, b] m = some (Vu.num (a.n + b.n)) := by simp [rawP, twoN, hk, hk2]
      exact (pure0_yes (Vu.num (a.n + b.n)).k (Vu.num (a.n + b.n)).n (Vu.num (a.n + b.n)).t (.slice A 2 c) (.slice A2 m.length c2) w (fun h u hb hu hc => rule1_yes a b A c (.slice A2 m.length c2) h B u (hin.below (hb.mono hB)) (Nat.le_trans hB hb.size) hu hc hk hk2 (Vu.ok_num oa hk) (Vu.ok_num ob hk2))).mono fun e w' ⟨he, hb⟩ => ⟨he.trans (by rw [e0]; exact congrArg _ (ans_some 0 (Vu.num (a.n + b.n)))), hb⟩
    · have e0 : rawP 0 [a, b] m = none := by simp [rawP, hk2]
      exact (pure0_no (.slice A 2 c) (.slice A2 m.length c2) w (fun h u hb hu hc => ruleN_no2 a b A c (.slice A2 m.length c2) h B u (hin.below (hb.mono hB)) (Nat.le_trans hB hb.size) hk hk2)).mono fun e w' ⟨he, hb⟩ => ⟨he.trans (by rw [e0]; exact congrArg _ ans_none0), hb⟩
  · have e0 : rawP 0 [a, b] m = none := by simp [rawP, hk]
    exact (pure0_no (.slice A 2 c) (.slice A2 m.length c2) w (fun h u hb hu hc => ruleN_no1 a b A c (.slice A2 m.length c2) h B u (hin.below (hb.mono hB)) (Nat.le_trans hB hb.size) hk)).mono fun e w' ⟨he, hb⟩ => ⟨he.trans (by rw [e0]; exact congrArg _ ans_none0), hb⟩
set_option maxRecDepth 100000 in
set_option maxHeartbeats 4000000 in
theorem iPure1 (a b : Vu) (m : List Pq) (A A2 : Option Addr) (c c2 B : Nat) (w : World) (hin : Vu.E.LIn w B A c [a, b]) (hl : Pq.E.LIn w B A2 c2 m) (hB : B ≤ w.heap.size) (oa : a.ok m.length = true) (ob : b.ok m.length = true) :
    Calls Try.prog 27 #[.int .i64 1, .slice A 2 c, .slice A2 m.length c2] w fun e w' => e = .returned (ansV (outP 1 (rawP 1 [a, b] m))) ∧ Below w.heap.size w w' := by
  by_cases hk : a.k = 3
  · by_cases hk2 : b.k = 3
    · have e0 : rawP 1 [a, b] m = some (Vu.num (a.n - b.n)) := by simp [rawP, twoN, hk, hk2]
      exact (pure1_yes (Vu.num (a.n - b.n)).k (Vu.num (a.n - b.n)).n (Vu.num (a.n - b.n)).t (.slice A 2 c) (.slice A2 m.length c2) w (fun h u hb hu hc => rule2_yes a b A c (.slice A2 m.length c2) h B u (hin.below (hb.mono hB)) (Nat.le_trans hB hb.size) hu hc hk hk2 (Vu.ok_num oa hk) (Vu.ok_num ob hk2))).mono fun e w' ⟨he, hb⟩ => ⟨he.trans (by rw [e0]; exact congrArg _ (ans_some 1 (Vu.num (a.n - b.n)))), hb⟩
    · have e0 : rawP 1 [a, b] m = none := by simp [rawP, hk2]
      exact (pure1_no (.slice A 2 c) (.slice A2 m.length c2) w (fun h u hb hu hc => ruleN_no2 a b A c (.slice A2 m.length c2) h B u (hin.below (hb.mono hB)) (Nat.le_trans hB hb.size) hk hk2)).mono fun e w' ⟨he, hb⟩ => ⟨he.trans (by rw [e0]; exact congrArg _ ans_none1), hb⟩
  · have e0 : rawP 1 [a, b] m = none := by simp [rawP, hk]
    exact (pure1_no (.slice A 2 c) (.slice A2 m.length c2) w (fun h u hb hu hc => ruleN_no1 a b A c (.slice A2 m.length c2) h B u (hin.below (hb.mono hB)) (Nat.le_trans hB hb.size) hk)).mono fun e w' ⟨he, hb⟩ => ⟨he.trans (by rw [e0]; exact congrArg _ ans_none1), hb⟩
set_option maxRecDepth 100000 in
set_option maxHeartbeats 4000000 in
theorem iPure2 (a b : Vu) (m : List Pq) (A A2 : Option Addr) (c c2 B : Nat) (w : World) (hin : Vu.E.LIn w B A c [a, b]) (hl : Pq.E.LIn w B A2 c2 m) (hB : B ≤ w.heap.size) (oa : a.ok m.length = true) (ob : b.ok m.length = true) :
    Calls Try.prog 27 #[.int .i64 2, .slice A 2 c, .slice A2 m.length c2] w fun e w' => e = .returned (ansV (outP 2 (rawP 2 [a, b] m))) ∧ Below w.heap.size w w' := by
  by_cases hk : a.k = 3
  · by_cases hk2 : b.k = 3
    · have e0 : rawP 2 [a, b] m = some (Vu.num (a.n * b.n)) := by simp [rawP, twoN, hk, hk2]
      exact (pure2_yes (Vu.num (a.n * b.n)).k (Vu.num (a.n * b.n)).n (Vu.num (a.n * b.n)).t (.slice A 2 c) (.slice A2 m.length c2) w (fun h u hb hu hc => rule3_yes a b A c (.slice A2 m.length c2) h B u (hin.below (hb.mono hB)) (Nat.le_trans hB hb.size) hu hc hk hk2 (Vu.ok_num oa hk) (Vu.ok_num ob hk2))).mono fun e w' ⟨he, hb⟩ => ⟨he.trans (by rw [e0]; exact congrArg _ (ans_some 2 (Vu.num (a.n * b.n)))), hb⟩
    · have e0 : rawP 2 [a, b] m = none := by simp [rawP, hk2]
      exact (pure2_no (.slice A 2 c) (.slice A2 m.length c2) w (fun h u hb hu hc => ruleN_no2 a b A c (.slice A2 m.length c2) h B u (hin.below (hb.mono hB)) (Nat.le_trans hB hb.size) hk hk2)).mono fun e w' ⟨he, hb⟩ => ⟨he.trans (by rw [e0]; exact congrArg _ ans_none2), hb⟩
  · have e0 : rawP 2 [a, b] m = none := by simp [rawP, hk]
    exact (pure2_no (.slice A 2 c) (.slice A2 m.length c2) w (fun h u hb hu hc => ruleN_no1 a b A c (.slice A2 m.length c2) h B u (hin.below (hb.mono hB)) (Nat.le_trans hB hb.size) hk)).mono fun e w' ⟨he, hb⟩ => ⟨he.trans (by rw [e0]; exact congrArg _ ans_none2), hb⟩
set_option maxRecDepth 100000 in
set_option maxHeartbeats 4000000 in
theorem iPure3 (a b : Vu) (m : List Pq) (A A2 : Option Addr) (c c2 B : Nat) (w : World) (hin : Vu.E.LIn w B A c [a, b]) (hl : Pq.E.LIn w B A2 c2 m) (hB : B ≤ w.heap.size) (oa : a.ok m.length = true) (ob : b.ok m.length = true) :
    Calls Try.prog 27 #[.int .i64 3, .slice A 2 c, .slice A2 m.length c2] w fun e w' => e = .returned (ansV (outP 3 (rawP 3 [a, b] m))) ∧ Below w.heap.size w w' := by
  by_cases hk : a.k = 3
  · by_cases hk2 : b.k = 3
    · have e0 : rawP 3 [a, b] m = some (Vu.boo (a.n == b.n)) := by simp [rawP, twoN, hk, hk2]
      exact (pure3_yes (Vu.boo (a.n == b.n)).k (Vu.boo (a.n == b.n)).n (Vu.boo (a.n == b.n)).t (.slice A 2 c) (.slice A2 m.length c2) w (fun h u hb hu hc => rule4_yes a b A c (.slice A2 m.length c2) h B u (hin.below (hb.mono hB)) (Nat.le_trans hB hb.size) hu hc hk hk2 (Vu.ok_num oa hk) (Vu.ok_num ob hk2))).mono fun e w' ⟨he, hb⟩ => ⟨he.trans (by rw [e0]; exact congrArg _ (ans_some 3 (Vu.boo (a.n == b.n)))), hb⟩
    · have e0 : rawP 3 [a, b] m = none := by simp [rawP, hk2]
      exact (pure3_no (.slice A 2 c) (.slice A2 m.length c2) w (fun h u hb hu hc => ruleN_no2 a b A c (.slice A2 m.length c2) h B u (hin.below (hb.mono hB)) (Nat.le_trans hB hb.size) hk hk2)).mono fun e w' ⟨he, hb⟩ => ⟨he.trans (by rw [e0]; exact congrArg _ ans_none3), hb⟩
  · have e0 : rawP 3 [a, b] m = none := by simp [rawP, hk]
    exact (pure3_no (.slice A 2 c) (.slice A2 m.length c2) w (fun h u hb hu hc => ruleN_no1 a b A c (.slice A2 m.length c2) h B u (hin.below (hb.mono hB)) (Nat.le_trans hB hb.size) hk)).mono fun e w' ⟨he, hb⟩ => ⟨he.trans (by rw [e0]; exact congrArg _ ans_none3), hb⟩
set_option maxRecDepth 100000 in
set_option maxHeartbeats 4000000 in
theorem iPure4 (a b : Vu) (m : List Pq) (A A2 : Option Addr) (c c2 B : Nat) (w : World) (hin : Vu.E.LIn w B A c [a, b]) (hl : Pq.E.LIn w B A2 c2 m) (hB : B ≤ w.heap.size) (oa : a.ok m.length = true) (ob : b.ok m.length = true) :
    Calls Try.prog 27 #[.int .i64 4, .slice A 2 c, .slice A2 m.length c2] w fun e w' => e = .returned (ansV (outP 4 (rawP 4 [a, b] m))) ∧ Below w.heap.size w w' := by
  by_cases hk : a.k = 3
  · by_cases hk2 : b.k = 3
    · have e0 : rawP 4 [a, b] m = some (Vu.boo (decide (a.n < b.n))) := by simp [rawP, twoN, hk, hk2]
      exact (pure4_yes (Vu.boo (decide (a.n < b.n))).k (Vu.boo (decide (a.n < b.n))).n (Vu.boo (decide (a.n < b.n))).t (.slice A 2 c) (.slice A2 m.length c2) w (fun h u hb hu hc => rule5_yes a b A c (.slice A2 m.length c2) h B u (hin.below (hb.mono hB)) (Nat.le_trans hB hb.size) hu hc hk hk2 (Vu.ok_num oa hk) (Vu.ok_num ob hk2))).mono fun e w' ⟨he, hb⟩ => ⟨he.trans (by rw [e0]; exact congrArg _ (ans_some 4 (Vu.boo (decide (a.n < b.n))))), hb⟩
    · have e0 : rawP 4 [a, b] m = none := by simp [rawP, hk2]
      exact (pure4_no (.slice A 2 c) (.slice A2 m.length c2) w (fun h u hb hu hc => ruleN_no2 a b A c (.slice A2 m.length c2) h B u (hin.below (hb.mono hB)) (Nat.le_trans hB hb.size) hk hk2)).mono fun e w' ⟨he, hb⟩ => ⟨he.trans (by rw [e0]; exact congrArg _ ans_none4), hb⟩
  · have e0 : rawP 4 [a, b] m = none := by simp [rawP, hk]
    exact (pure4_no (.slice A 2 c) (.slice A2 m.length c2) w (fun h u hb hu hc => ruleN_no1 a b A c (.slice A2 m.length c2) h B u (hin.below (hb.mono hB)) (Nat.le_trans hB hb.size) hk)).mono fun e w' ⟨he, hb⟩ => ⟨he.trans (by rw [e0]; exact congrArg _ ans_none4), hb⟩
set_option maxRecDepth 100000 in
set_option maxHeartbeats 4000000 in
theorem iPure6 (a : Vu) (m : List Pq) (A A2 : Option Addr) (c c2 B : Nat) (w : World) (hin : Vu.E.LIn w B A c [a]) (hl : Pq.E.LIn w B A2 c2 m) (hB : B ≤ w.heap.size) (oa : a.ok m.length = true)  :
    Calls Try.prog 27 #[.int .i64 6, .slice A 1 c, .slice A2 m.length c2] w fun e w' => e = .returned (ansV (outP 6 (rawP 6 [a] m))) ∧ Below w.heap.size w w' := by
  by_cases hk : a.k = 7
  · have g := Vu.ok_pair oa hk
    have hlt : a.n.toNat < m.length := by omega
    have hp : m[a.n.toNat]? = some m[a.n.toNat] := List.getElem?_eq_getElem hlt
    have e0 : rawP 6 [a] m = some (m[a.n.toNat].h) := by simp [rawP, hk, hlt]
    exact (pure6_yes (m[a.n.toNat].h).k (m[a.n.toNat].h).n (m[a.n.toNat].h).t (.slice A 1 c) (.slice A2 m.length c2) w (fun h u hb hu hc => rule6_yes a A c A2 c2 m m[a.n.toNat] h B u (hin.below (hb.mono hB)) (hl.below (hb.mono hB)) (Nat.le_trans hB hb.size) hu hc hk g.1 g.2 hp)).mono fun e w' ⟨he, hb⟩ => ⟨he.trans (by rw [e0]; exact congrArg _ (ans_some 6 (m[a.n.toNat].h))), hb⟩
  · have e0 : rawP 6 [a] m = none := by simp [rawP, hk]
    exact (pure6_no (.slice A 1 c) (.slice A2 m.length c2) w (fun h u hb hu hc => rule6_no a A c (.slice A2 m.length c2) h B u (hin.below (hb.mono hB)) (Nat.le_trans hB hb.size) hk)).mono fun e w' ⟨he, hb⟩ => ⟨he.trans (by rw [e0]; exact congrArg _ ans_none6), hb⟩
set_option maxRecDepth 100000 in
set_option maxHeartbeats 4000000 in
theorem iPure7 (a : Vu) (m : List Pq) (A A2 : Option Addr) (c c2 B : Nat) (w : World) (hin : Vu.E.LIn w B A c [a]) (hl : Pq.E.LIn w B A2 c2 m) (hB : B ≤ w.heap.size) (oa : a.ok m.length = true)  :
    Calls Try.prog 27 #[.int .i64 7, .slice A 1 c, .slice A2 m.length c2] w fun e w' => e = .returned (ansV (outP 7 (rawP 7 [a] m))) ∧ Below w.heap.size w w' := by
  by_cases hk : a.k = 7
  · have g := Vu.ok_pair oa hk
    have hlt : a.n.toNat < m.length := by omega
    have hp : m[a.n.toNat]? = some m[a.n.toNat] := List.getElem?_eq_getElem hlt
    have e0 : rawP 7 [a] m = some (m[a.n.toNat].u) := by simp [rawP, hk, hlt]
    exact (pure7_yes (m[a.n.toNat].u).k (m[a.n.toNat].u).n (m[a.n.toNat].u).t (.slice A 1 c) (.slice A2 m.length c2) w (fun h u hb hu hc => rule7_yes a A c A2 c2 m m[a.n.toNat] h B u (hin.below (hb.mono hB)) (hl.below (hb.mono hB)) (Nat.le_trans hB hb.size) hu hc hk g.1 g.2 hp)).mono fun e w' ⟨he, hb⟩ => ⟨he.trans (by rw [e0]; exact congrArg _ (ans_some 7 (m[a.n.toNat].u))), hb⟩
  · have e0 : rawP 7 [a] m = none := by simp [rawP, hk]
    exact (pure7_no (.slice A 1 c) (.slice A2 m.length c2) w (fun h u hb hu hc => rule6_no a A c (.slice A2 m.length c2) h B u (hin.below (hb.mono hB)) (Nat.le_trans hB hb.size) hk)).mono fun e w' ⟨he, hb⟩ => ⟨he.trans (by rw [e0]; exact congrArg _ ans_none7), hb⟩
set_option maxRecDepth 100000 in
set_option maxHeartbeats 4000000 in
theorem iPure8 (a : Vu) (m : List Pq) (A A2 : Option Addr) (c c2 B : Nat) (w : World) (hin : Vu.E.LIn w B A c [a]) (hl : Pq.E.LIn w B A2 c2 m) (hB : B ≤ w.heap.size) (oa : a.ok m.length = true)  :
    Calls Try.prog 27 #[.int .i64 8, .slice A 1 c, .slice A2 m.length c2] w fun e w' => e = .returned (ansV (outP 8 (rawP 8 [a] m))) ∧ Below w.heap.size w w' := by
  have e0 : rawP 8 [a] m = some (Vu.boo (a.k == 1)) := rfl
  exact (pure8_yes (Vu.boo (a.k == 1)).k (Vu.boo (a.k == 1)).n (Vu.boo (a.k == 1)).t (.slice A 1 c) (.slice A2 m.length c2) w (fun h u hb hu hc => rule8_any a A c (.slice A2 m.length c2) h B u (hin.below (hb.mono hB)) (Nat.le_trans hB hb.size) hu hc)).mono fun e w' ⟨he, hb⟩ => ⟨he.trans (by rw [e0]; exact congrArg _ (ans_some 8 (Vu.boo (a.k == 1)))), hb⟩
set_option maxRecDepth 100000 in
set_option maxHeartbeats 4000000 in
theorem iPure9 (a : Vu) (m : List Pq) (A A2 : Option Addr) (c c2 B : Nat) (w : World) (hin : Vu.E.LIn w B A c [a]) (hl : Pq.E.LIn w B A2 c2 m) (hB : B ≤ w.heap.size) (oa : a.ok m.length = true)  :
    Calls Try.prog 27 #[.int .i64 9, .slice A 1 c, .slice A2 m.length c2] w fun e w' => e = .returned (ansV (outP 9 (rawP 9 [a] m))) ∧ Below w.heap.size w w' := by
  have e0 : rawP 9 [a] m = some (Vu.boo (a.k == 7)) := rfl
  exact (pure9_yes (Vu.boo (a.k == 7)).k (Vu.boo (a.k == 7)).n (Vu.boo (a.k == 7)).t (.slice A 1 c) (.slice A2 m.length c2) w (fun h u hb hu hc => rule9_any a A c (.slice A2 m.length c2) h B u (hin.below (hb.mono hB)) (Nat.le_trans hB hb.size) hu hc)).mono fun e w' ⟨he, hb⟩ => ⟨he.trans (by rw [e0]; exact congrArg _ (ans_some 9 (Vu.boo (a.k == 7)))), hb⟩
set_option maxRecDepth 100000 in
set_option maxHeartbeats 4000000 in
theorem iPure10 (a : Vu) (m : List Pq) (A A2 : Option Addr) (c c2 B : Nat) (w : World) (hin : Vu.E.LIn w B A c [a]) (hl : Pq.E.LIn w B A2 c2 m) (hB : B ≤ w.heap.size) (oa : a.ok m.length = true)  :
    Calls Try.prog 27 #[.int .i64 10, .slice A 1 c, .slice A2 m.length c2] w fun e w' => e = .returned (ansV (outP 10 (rawP 10 [a] m))) ∧ Below w.heap.size w w' := by
  have e0 : rawP 10 [a] m = some (Vu.boo (a.k == 3)) := rfl
  exact (pure10_yes (Vu.boo (a.k == 3)).k (Vu.boo (a.k == 3)).n (Vu.boo (a.k == 3)).t (.slice A 1 c) (.slice A2 m.length c2) w (fun h u hb hu hc => rule10_any a A c (.slice A2 m.length c2) h B u (hin.below (hb.mono hB)) (Nat.le_trans hB hb.size) hu hc)).mono fun e w' ⟨he, hb⟩ => ⟨he.trans (by rw [e0]; exact congrArg _ (ans_some 10 (Vu.boo (a.k == 3)))), hb⟩
set_option maxRecDepth 100000 in
set_option maxHeartbeats 4000000 in
theorem iPure11 (a b : Vu) (m : List Pq) (A A2 : Option Addr) (c c2 B : Nat) (w : World) (hin : Vu.E.LIn w B A c [a, b]) (hl : Pq.E.LIn w B A2 c2 m) (hB : B ≤ w.heap.size) (oa : a.ok m.length = true) (ob : b.ok m.length = true) :
    Calls Try.prog 27 #[.int .i64 11, .slice A 2 c, .slice A2 m.length c2] w fun e w' => e = .returned (ansV (outP 11 (rawP 11 [a, b] m))) ∧ Below w.heap.size w w' := by
  have e0 : rawP 11 [a, b] m = some (Vu.boo (a.k == b.k && (a.n == b.n && a.t.toList == b.t.toList))) := rfl
  exact (pure11_yes (Vu.boo (a.k == b.k && (a.n == b.n && a.t.toList == b.t.toList))).k (Vu.boo (a.k == b.k && (a.n == b.n && a.t.toList == b.t.toList))).n (Vu.boo (a.k == b.k && (a.n == b.n && a.t.toList == b.t.toList))).t (.slice A 2 c) (.slice A2 m.length c2) w (fun u hb => op11_any a b A c (.slice A2 m.length c2) B u (hin.below (hb.mono hB)) (Nat.le_trans hB hb.size))).mono fun e w' ⟨he, hb⟩ => ⟨he.trans (by rw [e0]; exact congrArg _ (ans_some 11 (Vu.boo (a.k == b.k && (a.n == b.n && a.t.toList == b.t.toList))))), hb⟩
set_option maxRecDepth 100000 in
set_option maxHeartbeats 4000000 in
theorem iPure12 (a : Vu) (m : List Pq) (A A2 : Option Addr) (c c2 B : Nat) (w : World) (hin : Vu.E.LIn w B A c [a]) (hl : Pq.E.LIn w B A2 c2 m) (hB : B ≤ w.heap.size) (oa : a.ok m.length = true)  :
    Calls Try.prog 27 #[.int .i64 12, .slice A 1 c, .slice A2 m.length c2] w fun e w' => e = .returned (ansV (outP 12 (rawP 12 [a] m))) ∧ Below w.heap.size w w' := by
  have e0 : rawP 12 [a] m = some (Vu.boo (a.k == 2 && (a.n == 0 && a.t.toList == []))) := rfl
  exact (pure12_yes (Vu.boo (a.k == 2 && (a.n == 0 && a.t.toList == []))).k (Vu.boo (a.k == 2 && (a.n == 0 && a.t.toList == []))).n (Vu.boo (a.k == 2 && (a.n == 0 && a.t.toList == []))).t (.slice A 1 c) (.slice A2 m.length c2) w (fun h u hb hu hc => rule12_any a A c (.slice A2 m.length c2) h B u (hin.below (hb.mono hB)) (Nat.le_trans hB hb.size) hu hc)).mono fun e w' ⟨he, hb⟩ => ⟨he.trans (by rw [e0]; exact congrArg _ (ans_some 12 (Vu.boo (a.k == 2 && (a.n == 0 && a.t.toList == []))))), hb⟩
end Go.Proofs.Ytnldlbglgalbaab
