/-
  EqualBindings, the model's and the program's.
-/
import Derived.Test.YtndckeodpoommaaBindL
import Derived.Test.YtndckeodpoommaaSEqi
import Derived.Deep.RegionLaw
import Derived.Deep.QuietTactic
import Derived.BigQuiet
import Derived.Deep.DeepCutAuto
namespace Go.Proofs.Ytndckeodpoommaa
open Go.RowKit

theorem drewN_one (w : World) (q : Nat) : (w.drewN q).drew = w.drewN (q + 1) := by rw [← World.drewN_drewN]; rfl
theorem below_drewN {B : Nat} {w w1 : World} (h : Below B w w1) (n : Nat) : Below B w (w1.drewN n) := ⟨h.os, h.tape, h.output, h.size, h.block⟩
set_option maxHeartbeats 400000 in
theorem sameIntsQ_any (A : Option Addr) (c : Nat) (l : List Int) (A' : Option Addr) (c' : Nat) (l' : List Int) (B : Nat) (w : World) (hin : IIn w B A c l) (hin' : IIn w B A' c' l') (hB : B ≤ w.heap.size) :
    Calls Try.prog 164 #[.slice A l.length c, .slice A' l'.length c'] w fun e w' => e = .returned (.bool (l == l')) ∧ ∃ m, w' = w.drewN m := by
  have hcap := hin.cap
  have hcap' := hin'.cap
  by_cases hlen : l.length = l'.length
  · have hn1 : ((l.length : Int) != (l'.length : Int)) = false := by simp [hlen]
    have Hlen := Lib.hid hlen
    have hlen1 : l'.length ≤ l.length := by omega
    have hlen2 : l.length ≤ l'.length := by omega
    clear hlen
    go_enter Try.func164, Try.ntmps164
    go_wp2_with fail
    go_loopw [13] (fun i wr => ∃ j : Nat, j ≤ l.length ∧ i = .int .i64 j ∧ Hid (l.take j = l'.take j) ∧ ∃ q, wr = w.drewN q) (fun i _ => l.length - (intOf i).toNat)
    case atStart => exact ⟨0, Nat.zero_le _, rfl, by simp [Hid], 0, rfl⟩
    case round =>
      obtain ⟨j, hj, rfl, HE, q, rfl⟩ := hrel
      by_cases hlt : j < l.length
      · have hlt' : j < l'.length := by omega
        obtain ⟨b, o, rfl, hblk, c0⟩ := hin.at_ hlt
        obtain ⟨b', o', rfl, hblk', c0'⟩ := hin'.at_ hlt'
        have g2 : (j : Int) < (l.length : Int) := by omega
        have g3 : (j : Int) < (l'.length : Int) := by omega
        by_cases hq : l[j] = l'[j]
        · have hq1 : (l[j] != l'[j]) = false := by simp [hq]
          have HT : Hid (l.take (j + 1) = l'.take (j + 1)) := by
            show _ = _
            rw [List.take_succ_eq_append_getElem hlt, List.take_succ_eq_append_getElem hlt', HE.out, hq]
          clear hq
          go_wp2_with fail
          go_region
          all_goals go_wp2_with fail
          all_goals refine ⟨⟨j + 1, by omega, by go_num, HT, q + 1, drewN_one _ _⟩, by simp [intOf]; omega⟩
        · have hq1 : (l[j] != l'[j]) = true := by simpa using hq
          have HF : Hid ((l == l') = false) := by
            show _ = _
            rw [beq_eq_false_iff_ne]
            rintro rfl
            exact hq rfl
          clear hq
          go_wp2_with fail
          go_region
          all_goals go_wp2_with fail
          all_goals go_ret
          all_goals exact ⟨ret_bool HF.out.symm, q + 1, drewN_one _ _⟩
      · have hj' : j = l.length := by omega
        subst hj'
        have HF : Hid ((l == l') = true) := by
          show _ = _
          have := HE.out
          rw [List.take_length, List.take_of_length_le (by omega)] at this
          simp [this]
        go_wp2_with fail
        go_ret
        exact ⟨ret_bool HF.out.symm, q, rfl⟩
  · have hn1 : ((l.length : Int) != (l'.length : Int)) = true := by simpa using (by omega : ¬ (l.length : Int) = (l'.length : Int))
    have HF : Hid ((l == l') = false) := by
      show _ = _
      rw [beq_eq_false_iff_ne]
      rintro rfl
      exact hlen rfl
    go_enter Try.func164, Try.ntmps164
    go_wp2_with fail
    go_ret
    exact ⟨ret_bool HF.out.symm, 0, rfl⟩


namespace Bd
def eqB (x y : Bd) : Bool := x.t.toList == y.t.toList && (x.s == y.s && (x.k == y.k && x.n == y.n))
def eqBL : List Bd → List Bd → Bool | [], [] => true | [], _ :: _ => false | _ :: _, [] => false | a :: r, b :: s => eqB a b && eqBL r s
theorem eqB_er {a b a2 b2 : Bd} (h1 : er a = er a2) (h2 : er b = er b2) : eqB a b = eqB a2 b2 := by
  obtain ⟨e1, e2, e3, e4⟩ := fields_of_er h1
  obtain ⟨f1, f2, f3, f4⟩ := fields_of_er h2
  unfold eqB; rw [e1, e2, e3, e4, f1, f2, f3, f4]
theorem eqBL_er : ∀ {a b a2 b2 : List Bd}, erL a = erL a2 → erL b = erL b2 → eqBL a b = eqBL a2 b2
  | [], b, [], b2, _, h2 => by cases b <;> cases b2 <;> simp [erL] at h2 <;> rfl
  | [], _, _ :: _, _, h1, _ => by simp [erL] at h1
  | _ :: _, _, [], _, h1, _ => by simp [erL] at h1
  | x :: r, [], x2 :: r2, [], _, _ => rfl
  | x :: r, [], x2 :: r2, _ :: _, _, h2 => by simp [erL] at h2
  | x :: r, _ :: _, x2 :: r2, [], _, h2 => by simp [erL] at h2
  | x :: r, y :: s, x2 :: r2, y2 :: s2, h1, h2 => by
    have a1 : er x = er x2 ∧ erL r = erL r2 := by simpa [erL] using h1
    have a2 : er y = er y2 ∧ erL s = erL s2 := by simpa [erL] using h2
    simp only [eqBL, eqB_er a1.1 a2.1, eqBL_er a1.2 a2.2]
theorem eqBL_length : ∀ (l l' : List Bd), l.length ≠ l'.length → eqBL l l' = false
  | [], [], h => absurd rfl h
  | [], _ :: _, _ => rfl
  | _ :: _, [], _ => rfl
  | a :: r, b :: s, h => by simp only [eqBL, eqBL_length r s (by simpa using h), Bool.and_false]
theorem eqBL_append : ∀ (a b c d : List Bd), a.length = c.length → eqBL (a ++ b) (c ++ d) = (eqBL a c && eqBL b d)
  | [], b, [], d, _ => by simp [eqBL]
  | [], _, _ :: _, _, h => by simp at h
  | _ :: _, _, [], _, h => by simp at h
  | x :: r, b, y :: s, d, h => by simp only [List.cons_append, eqBL, eqBL_append r b s d (by simpa using h), Bool.and_assoc]
theorem eqBL_step {l l' : List Bd} {j : Nat} (h : j < l.length) (h' : j < l'.length) : eqBL (l.take (j + 1)) (l'.take (j + 1)) = (eqBL (l.take j) (l'.take j) && eqB l[j] l'[j]) := by
  rw [List.take_succ_eq_append_getElem h, List.take_succ_eq_append_getElem h', eqBL_append _ _ _ _ (by simp; omega)]
  simp [eqBL]
theorem eqBL_no {l l' : List Bd} {j : Nat} (h : j < l.length) (h' : j < l'.length) (he : eqB l[j] l'[j] = false) : eqBL l l' = false := by
  have e1 := List.take_append_drop (j + 1) l
  have e2 := List.take_append_drop (j + 1) l'
  rw [← e1, ← e2, eqBL_append _ _ _ _ (by simp; omega), eqBL_step h h', he]
  simp
end Bd

end Go.Proofs.Ytndckeodpoommaa
