/-
  Numbers that are variables, and different: the model's l5Unique, the program's addVariables.
-/
import Derived.Test.YtbeikpbnidbjfaaKoY
import Derived.Test.YtbeikpbnidbjfaaWords
namespace Go.Proofs.Ytbeikpbnidbjfaa
open Go.RowKit Go.Maps Go.WideMaps Go.ChangeMaps

def inR (n : Int) : Bool := decide (0 ≤ n ∧ n ≤ 99999)
/-- All are variables, different from each other and from those that are known. -/
def uniqK : List Int → List Int → Bool | _, [] => true | known, n :: r => (inR n && !known.contains n) && uniqK (known ++ [n]) r
theorem uniqK_append (a b : List Int) : ∀ known, uniqK known (a ++ b) = (uniqK known a && uniqK (known ++ a) b) := by
  induction a with
  | nil => intro known; simp [uniqK]
  | cons n r ih => intro known; simp only [List.cons_append, uniqK, ih, Bool.and_assoc, List.append_assoc, List.nil_append, List.singleton_append]
theorem uniqK_take_succ (known l : List Int) (j : Nat) (h : j < l.length) : uniqK known (l.take (j + 1)) = (uniqK known (l.take j) && (inR l[j] && !(known ++ l.take j).contains l[j])) := by
  rw [List.take_succ_eq_append_getElem h, uniqK_append]; simp [uniqK]
theorem uniqK_no (known l : List Int) (j : Nat) (h : j < l.length) (hq : (inR l[j] && !(known ++ l.take j).contains l[j]) = false) : uniqK known l = false := by
  have h1 := uniqK_append (l.take (j + 1)) (l.drop (j + 1)) known
  rw [List.take_append_drop, uniqK_take_succ known l j h, hq] at h1
  simpa using h1
theorem inR_wf {n : Int} (h : inR n = true) : (Lit.int .i64 n).wf = true := by
  unfold inR at h
  have h2 := of_decide_eq_true h
  have e1 : IntKind.i64.min = -9223372036854775808 := by decide
  have e2 : IntKind.i64.max = 9223372036854775807 := by decide
  show (decide (IntKind.i64.min ≤ n) && decide (n ≤ IntKind.i64.max)) = true
  rw [e1, e2]
  simp only [Bool.and_eq_true, decide_eq_true_eq]
  omega
theorem IIn.take {w : World} {B : Nat} {A : Option Addr} {c : Nat} {l : List Int} (h : IIn w B A c l) (j : Nat) : IIn w B A c (l.take j) := by
  refine ⟨⟨by have := h.cap; rw [List.length_take]; omega, h.cap.2⟩, h.nil, fun hl => ?_⟩
  obtain ⟨b, o, e, hb, hc⟩ := h.mem (by rintro rfl; simp at hl)
  refine ⟨b, o, e, hb, fun i u hu => hc i u ?_⟩
  rw [List.getElem?_take] at hu
  split at hu
  · exact hu
  · cases hu

set_option maxRecDepth 100000 in
set_option maxHeartbeats 2000000 in
theorem specUniq_any (A : Option Addr) (c : Nat) (l : List Int) (B : Nat) (w : World) (hin : IIn w B A c l) : Calls Try.prog 83 #[.slice A l.length c] w fun e w' => e = .returned (.bool (uniqK [] l)) ∧ w' = w := by
  have hcap := hin.cap
  go_enter Try.func83, Try.ntmps83
  go_wp2_with fail
  go_loopw [7] (fun i wr => ∃ j : Nat, j ≤ l.length ∧ i = .int .i64 j ∧ Hid (uniqK [] (l.take j) = true) ∧ wr = w) (fun i _ => l.length - (intOf i).toNat)
  case atStart => exact ⟨0, Nat.zero_le _, rfl, rfl, rfl⟩
  case round =>
    obtain ⟨j, hj, rfl, HN, rfl⟩ := hrel
    by_cases hlt : j < l.length
    · obtain ⟨b, o, rfl, hblk, c0⟩ := hin.at_ hlt
      have g2 : (j : Int) < (l.length : Int) := by omega
      have hl1 : (l.take j).length = j := by rw [List.length_take]; omega
      have hhas := fun n => specHas_any (some ⟨b, o, none⟩) c (l.take j) n B wr (hin.take j)
      rw [hl1] at hhas
      have HHAS := Lib.hid hhas
      clear hhas hl1
      by_cases hr : 0 ≤ l[j] ∧ l[j] ≤ 99999
      · have HR : Hid (decide (0 ≤ l[j] ∧ l[j] ≤ 99999) = true) := decide_eq_true hr
        cases hq : (l.take j).contains l[j]
        · have HQ := Lib.hid hq
          clear hq hr
          go_wp2_with (first | (go_at_call 131; with_reducible refine (l1In_any _ _ _ _).mono ?_; rintro e wn ⟨rfl, hwn⟩; obtain rfl := hwn; rw [HR.out]) | (go_at_call 85; with_reducible refine (HHAS.out _).mono ?_; rintro e wn ⟨rfl, hwn⟩; obtain rfl := hwn.symm; rw [HQ.out]))
          go_roundw
          case rel => exact ⟨j + 1, by omega, by go_num, by (show _ = _); rw [uniqK_take_succ [] l j hlt, HN.out, List.nil_append, HQ.out, show inR l[j] = true from HR.out]; rfl, by first | rfl | trivial⟩
          case measure => simp [intOf]; omega
        · have HQ := Lib.hid hq
          have HF := Lib.hid (uniqK_no [] l j hlt (by rw [List.nil_append, hq, Bool.not_true, Bool.and_false]))
          clear hq hr
          go_wp2_with (first | (go_at_call 131; with_reducible refine (l1In_any _ _ _ _).mono ?_; rintro e wn ⟨rfl, hwn⟩; obtain rfl := hwn; rw [HR.out]) | (go_at_call 85; with_reducible refine (HHAS.out _).mono ?_; rintro e wn ⟨rfl, hwn⟩; obtain rfl := hwn.symm; rw [HQ.out]))
          go_ret
          exact ⟨ret_bool HF.out.symm, by first | rfl | trivial⟩
      · have HR : Hid (decide (0 ≤ l[j] ∧ l[j] ≤ 99999) = false) := decide_eq_false hr
        have HF := Lib.hid (uniqK_no [] l j hlt (by rw [show inR l[j] = false from HR.out]; rfl))
        clear hr
        go_wp2_with (go_at_call 131; with_reducible refine (l1In_any _ _ _ _).mono ?_; rintro e wn ⟨rfl, hwn⟩; obtain rfl := hwn; rw [HR.out])
        go_ret
        exact ⟨ret_bool HF.out.symm, by first | rfl | trivial⟩
    · have hj' : j = l.length := by omega
      subst hj'
      have HF : Hid (uniqK [] l = true) := by have := HN.out; rwa [List.take_length] at this
      go_wp2_with fail
      go_ret
      exact ⟨ret_bool HF.out.symm, by first | rfl | trivial⟩

set_option maxRecDepth 100000 in
theorem implVarR_any (n : Int) (w : World) : Calls Try.prog 166 #[.int .i64 n] w fun e w' => e = .returned (.bool (inR n)) ∧ w' = w := by
  by_cases h1 : 0 ≤ n
  · by_cases h2 : n ≤ 99999
    · have HF : Hid (inR n = true) := decide_eq_true ⟨h1, h2⟩
      go_enter Try.func166, Try.ntmps166
      go_wp2_with fail
      go_ret
      exact ⟨ret_bool (by first | exact HF.out.symm | (rw [HF.out]; simp; omega)), by first | rfl | trivial⟩
    · have HF : Hid (inR n = false) := decide_eq_false fun h => h2 h.2
      go_enter Try.func166, Try.ntmps166
      go_wp2_with fail
      go_ret
      exact ⟨ret_bool (by first | exact HF.out.symm | (rw [HF.out]; simp; omega)), by first | rfl | trivial⟩
  · have HF : Hid (inR n = false) := decide_eq_false fun h => h1 h.1
    go_enter Try.func166, Try.ntmps166
    go_wp2_with fail
    go_ret
    exact ⟨ret_bool HF.out.symm, by first | rfl | trivial⟩
end Go.Proofs.Ytbeikpbnidbjfaa
