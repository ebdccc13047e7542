/-
  isPure, the closure isNone, slices.ContainsFunc over values (written by gen/app5.py).
-/
import Derived.Test.YtnldlbglgalbaabArA
import Derived.Test.YtnldlbglgalbaabPqA
import Derived.Test.YtnldlbglgalbaabVuD
import Derived.Test.YtnldlbglgalbaabFidx
namespace Go.Proofs.Ytnldlbglgalbaab
open Go.RowKit
def pureB (p : Int) : Bool := decide (0 ≤ p ∧ p ≤ 13) && (decide (p ≠ 5) && decide (p ≠ 13))
set_option maxRecDepth 100000 in
set_option maxHeartbeats 4000000 in
theorem isPure_any (p : Int) (w : World) : Calls Try.prog 23 #[.int .i64 p] w fun e w' => e = .returned (.bool (pureB p)) ∧ Below w.heap.size w w' := by
  by_cases h : 0 ≤ p ∧ p ≤ 13
  · have hc : p = 0 ∨ p = 1 ∨ p = 2 ∨ p = 3 ∨ p = 4 ∨ p = 5 ∨ p = 6 ∨ p = 7 ∨ p = 8 ∨ p = 9 ∨ p = 10 ∨ p = 11 ∨ p = 12 ∨ p = 13 := by omega
    rcases hc with rfl | rfl | rfl | rfl | rfl | rfl | rfl | rfl | rfl | rfl | rfl | rfl | rfl | rfl
    · have HA : Hid (∀ u, Calls Try.prog 25 #[.int .i64 0] u fun e w' => e = .returned (.int .i64 2) ∧ Below u.heap.size u w') := fun u => implAr_any 0 u
      go_enter Try.func23, Try.ntmps23
      go_wp2_with fail
      (with_reducible refine (HA.out w).mono ?_)
      rintro e w1 ⟨rfl, hb1⟩
      go_wp2_with fail
      go_ret
      exact ⟨rfl, hb1⟩
    · have HA : Hid (∀ u, Calls Try.prog 25 #[.int .i64 1] u fun e w' => e = .returned (.int .i64 2) ∧ Below u.heap.size u w') := fun u => implAr_any 1 u
      go_enter Try.func23, Try.ntmps23
      go_wp2_with fail
      (with_reducible refine (HA.out w).mono ?_)
      rintro e w1 ⟨rfl, hb1⟩
      go_wp2_with fail
      go_ret
      exact ⟨rfl, hb1⟩
    · have HA : Hid (∀ u, Calls Try.prog 25 #[.int .i64 2] u fun e w' => e = .returned (.int .i64 2) ∧ Below u.heap.size u w') := fun u => implAr_any 2 u
      go_enter Try.func23, Try.ntmps23
      go_wp2_with fail
      (with_reducible refine (HA.out w).mono ?_)
      rintro e w1 ⟨rfl, hb1⟩
      go_wp2_with fail
      go_ret
      exact ⟨rfl, hb1⟩
    · have HA : Hid (∀ u, Calls Try.prog 25 #[.int .i64 3] u fun e w' => e = .returned (.int .i64 2) ∧ Below u.heap.size u w') := fun u => implAr_any 3 u
      go_enter Try.func23, Try.ntmps23
      go_wp2_with fail
      (with_reducible refine (HA.out w).mono ?_)
      rintro e w1 ⟨rfl, hb1⟩
      go_wp2_with fail
      go_ret
      exact ⟨rfl, hb1⟩
    · have HA : Hid (∀ u, Calls Try.prog 25 #[.int .i64 4] u fun e w' => e = .returned (.int .i64 2) ∧ Below u.heap.size u w') := fun u => implAr_any 4 u
      go_enter Try.func23, Try.ntmps23
      go_wp2_with fail
      (with_reducible refine (HA.out w).mono ?_)
      rintro e w1 ⟨rfl, hb1⟩
      go_wp2_with fail
      go_ret
      exact ⟨rfl, hb1⟩
    · have HA : Hid (∀ u, Calls Try.prog 25 #[.int .i64 5] u fun e w' => e = .returned (.int .i64 2) ∧ Below u.heap.size u w') := fun u => implAr_any 5 u
      go_enter Try.func23, Try.ntmps23
      go_wp2_with fail
      (with_reducible refine (HA.out w).mono ?_)
      rintro e w1 ⟨rfl, hb1⟩
      go_wp2_with fail
      go_ret
      exact ⟨rfl, hb1⟩
    · have HA : Hid (∀ u, Calls Try.prog 25 #[.int .i64 6] u fun e w' => e = .returned (.int .i64 1) ∧ Below u.heap.size u w') := fun u => implAr_any 6 u
      go_enter Try.func23, Try.ntmps23
      go_wp2_with fail
      (with_reducible refine (HA.out w).mono ?_)
      rintro e w1 ⟨rfl, hb1⟩
      go_wp2_with fail
      go_ret
      exact ⟨rfl, hb1⟩
    · have HA : Hid (∀ u, Calls Try.prog 25 #[.int .i64 7] u fun e w' => e = .returned (.int .i64 1) ∧ Below u.heap.size u w') := fun u => implAr_any 7 u
      go_enter Try.func23, Try.ntmps23
      go_wp2_with fail
      (with_reducible refine (HA.out w).mono ?_)
      rintro e w1 ⟨rfl, hb1⟩
      go_wp2_with fail
      go_ret
      exact ⟨rfl, hb1⟩
    · have HA : Hid (∀ u, Calls Try.prog 25 #[.int .i64 8] u fun e w' => e = .returned (.int .i64 1) ∧ Below u.heap.size u w') := fun u => implAr_any 8 u
      go_enter Try.func23, Try.ntmps23
      go_wp2_with fail
      (with_reducible refine (HA.out w).mono ?_)
      rintro e w1 ⟨rfl, hb1⟩
      go_wp2_with fail
      go_ret
      exact ⟨rfl, hb1⟩
    · have HA : Hid (∀ u, Calls Try.prog 25 #[.int .i64 9] u fun e w' => e = .returned (.int .i64 1) ∧ Below u.heap.size u w') := fun u => implAr_any 9 u
      go_enter Try.func23, Try.ntmps23
      go_wp2_with fail
      (with_reducible refine (HA.out w).mono ?_)
      rintro e w1 ⟨rfl, hb1⟩
      go_wp2_with fail
      go_ret
      exact ⟨rfl, hb1⟩
    · have HA : Hid (∀ u, Calls Try.prog 25 #[.int .i64 10] u fun e w' => e = .returned (.int .i64 1) ∧ Below u.heap.size u w') := fun u => implAr_any 10 u
      go_enter Try.func23, Try.ntmps23
      go_wp2_with fail
      (with_reducible refine (HA.out w).mono ?_)
      rintro e w1 ⟨rfl, hb1⟩
      go_wp2_with fail
      go_ret
      exact ⟨rfl, hb1⟩
    · have HA : Hid (∀ u, Calls Try.prog 25 #[.int .i64 11] u fun e w' => e = .returned (.int .i64 2) ∧ Below u.heap.size u w') := fun u => implAr_any 11 u
      go_enter Try.func23, Try.ntmps23
      go_wp2_with fail
      (with_reducible refine (HA.out w).mono ?_)
      rintro e w1 ⟨rfl, hb1⟩
      go_wp2_with fail
      go_ret
      exact ⟨rfl, hb1⟩
    · have HA : Hid (∀ u, Calls Try.prog 25 #[.int .i64 12] u fun e w' => e = .returned (.int .i64 1) ∧ Below u.heap.size u w') := fun u => implAr_any 12 u
      go_enter Try.func23, Try.ntmps23
      go_wp2_with fail
      (with_reducible refine (HA.out w).mono ?_)
      rintro e w1 ⟨rfl, hb1⟩
      go_wp2_with fail
      go_ret
      exact ⟨rfl, hb1⟩
    · have HA : Hid (∀ u, Calls Try.prog 25 #[.int .i64 13] u fun e w' => e = .returned (.int .i64 1) ∧ Below u.heap.size u w') := fun u => implAr_any 13 u
      go_enter Try.func23, Try.ntmps23
      go_wp2_with fail
      (with_reducible refine (HA.out w).mono ?_)
      rintro e w1 ⟨rfl, hb1⟩
      go_wp2_with fail
      go_ret
      exact ⟨rfl, hb1⟩
  · have HA : Hid (∀ u, Calls Try.prog 25 #[.int .i64 p] u fun e w' => e = .returned (.int .i64 (-1)) ∧ Below u.heap.size u w') := fun u => by have := implAr_any p u; rwa [ar_out h] at this
    have HQ : Hid (pureB p = false) := by show _ = _; unfold pureB; rw [decide_eq_false h]; rfl
    clear h
    go_enter Try.func23, Try.ntmps23
    go_wp2_with fail
    (with_reducible refine (HA.out w).mono ?_)
    rintro e w1 ⟨rfl, hb1⟩
    go_wp2_with fail
    go_ret
    exact ⟨ret_bool HQ.out.symm, hb1⟩
set_option maxRecDepth 100000 in
set_option maxHeartbeats 4000000 in
theorem isNone_any (v : Vu) (A2 : Option Addr) (c2 : Nat) (m : Nat) (g : Nat) (w : World) (ht : v.t.size ≤ 9223372036854775807) (hg : g < w.heap.size) (hc : w.cell? ⟨g, 0, none⟩ = some (.slice A2 m c2)) :
    Calls Try.prog 21 #[Vu.val v, .pointer (some ⟨g, 0, none⟩)] w fun e w' => e = .returned (.bool (!v.ok m)) ∧ Below w.heap.size w w' := by
  obtain ⟨W1, hW1⟩ : ∃ W1, W1 = w.alloc (.cells #[.int .i64 v.k, .int .i64 v.n, .string v.t] 27) := ⟨_, rfl⟩
  have b1 : Below w.heap.size w W1 := by rw [hW1]; exact (Below.refl _ _).alloc (Nat.le_refl _) _
  have X1 : Vu.Box W1 w.heap.size v := by rw [hW1]; exact Vu.Box.new _ _ _
  have HA : Hid (∀ u, Calls Try.prog 22 #[.agg #[.int .i64 v.k, .int .i64 v.n, .string v.t], .int .i64 (m : Int)] u fun e w' => e = .returned (.bool (v.ok m)) ∧ Below u.heap.size u w') := fun u => among_any v m u ht
  obtain ⟨x0, x1, x2⟩ := X1
  have cg := (b1.cell (p := ⟨g, 0, none⟩) hg).trans hc
  clear hc
  unfold Vu.val
  go_enter Try.func21, Try.ntmps21
  go_upto_region 1 with fail
  rw [← hW1]
  clear hW1
  go_wp2_with fail
  (with_reducible refine (HA.out W1).mono ?_)
  rintro e w1 ⟨rfl, hb1⟩
  go_wp2_with fail
  go_ret
  exact ⟨rfl, b1.trans (hb1.mono (by have := b1.size; omega))⟩
def Vu.none (m : Nat) (v : Vu) : Bool := !v.ok m
theorem vany_none {α : Type} {p : α → Bool} {l : List α} (h : ∀ x ∈ l, p x = false) : l.any p = false := by
  rw [List.any_eq_false]
  intro x hx
  simp [h x hx]
theorem vany_yes {α : Type} {p : α → Bool} {l : List α} {j : Nat} (h : j < l.length) (hy : p l[j] = true) : l.any p = true := List.any_eq_true.2 ⟨_, List.getElem_mem h, hy⟩
set_option maxRecDepth 100000 in
set_option maxHeartbeats 4000000 in
theorem conNone_any (A : Option Addr) (c : Nat) (l : List Vu) (A2 : Option Addr) (m c2 : Nat) (g B : Nat) (w : World) (hin : Vu.E.LIn w B A c l) (hB : B ≤ w.heap.size) (hg : g < w.heap.size) (hbk : ∀ x ∈ l, x.t.size ≤ 9223372036854775807) (hcg : w.cell? ⟨g, 0, none⟩ = some (.slice A2 m c2)) :
    Calls Try.prog 26 #[.slice A l.length c, .func (.func 21) #[] #[.pointer (some ⟨g, 0, none⟩)]] w fun e w' => e = .returned (.bool (l.any (Vu.none m))) ∧ Below w.heap.size w w' := by
  have hcap := hin.cap
  have key : Calls Try.prog 40 #[.slice A l.length c, .func (.func 21) #[] #[.pointer (some ⟨g, 0, none⟩)]] w fun e w' => (∃ r : Int, e = .returned (.int .i64 r) ∧ decide (0 ≤ r) = l.any (Vu.none m)) ∧ Below w.heap.size w w' := by
    go_enter Try.func40, Try.ntmps40
    go_wp2_with fail
    go_loopw [5, 8] (fun _ i wr => ∃ j : Nat, j ≤ l.length ∧ i = .int .i64 j ∧ Hid (∀ x ∈ l.take j, (Vu.none m) x = false) ∧ Below w.heap.size w wr) (fun _ i _ => l.length - (intOf i).toNat)
    case atStart => exact ⟨0, Nat.zero_le _, rfl, by simp [Hid], Below.refl _ _⟩
    case round =>
      obtain ⟨j, hj, rfl, HN, hb⟩ := hrel
      by_cases hlt : j < l.length
      · have hsz := hb.size
        obtain ⟨b, o, rfl, hblk, c0, c1, c3, hix⟩ := Vu.at_ (hin.below (hb.mono hB)) (i := j) (x := l[j]) (List.getElem?_eq_getElem hlt)
        have g2 : (j : Int) < (l.length : Int) := by omega
        have hc := isNone_any l[j] A2 c2 m g wr (hbk _ (List.getElem_mem hlt)) (by omega) ((hb.cell (p := ⟨g, 0, none⟩) hg).trans hcg)
        unfold Vu.val at hc
        go_wp2_with fail
        (with_reducible refine hc.mono ?_)
        clear hc
        rintro e w1 ⟨rfl, hb1⟩
        have hb3 := hb.trans (hb1.mono (by omega))
        clear c0 c1 c3 hb1
        cases hq : (Vu.none m) l[j]
        · have HN2 : Hid (∀ x ∈ l.take (j + 1), (Vu.none m) x = false) := none_succ hlt HN.out hq
          rw [show (!(l[j]).ok m) = false from hq]
          clear hq
          go_wp2_with fail
          refine ⟨⟨j + 1, by omega, by go_num, HN2, hb3⟩, by simp [intOf]; omega⟩
        · have HY : Hid (l.any (Vu.none m) = true) := vany_yes (p := (Vu.none m)) hlt hq
          rw [show (!(l[j]).ok m) = true from hq]
          clear hq
          go_wp2_with fail
          go_ret
          exact ⟨⟨j, rfl, by rw [HY.out]; simp⟩, hb3⟩
      · have hj' : j = l.length := by omega
        subst hj'
        have HF : Hid (l.any (Vu.none m) = false) := vany_none (p := (Vu.none m)) (by have := HN.out; rwa [List.take_length] at this)
        go_wp2_with fail
        go_ret
        exact ⟨⟨-1, rfl, by rw [HF.out]; rfl⟩, hb⟩
  go_enter Try.func26, Try.ntmps26
  go_wp2_with fail
  refine key.mono ?_
  rintro e w1 ⟨⟨r, rfl, hr⟩, hb1⟩
  have HR := Lib.hid hr
  clear hr key
  go_wp2_with fail
  go_ret
  exact ⟨ret_bool HR.out, hb1⟩

end Go.Proofs.Ytnldlbglgalbaab
