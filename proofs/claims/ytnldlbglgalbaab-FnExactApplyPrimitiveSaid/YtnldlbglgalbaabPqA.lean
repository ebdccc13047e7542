/-
  ArePairs and IsValue of the model and of the program (written by gen/arep.py).
-/
import Derived.Test.YtnldlbglgalbaabVuD
import Derived.Test.YtnldlbglgalbaabPqLq
import Derived.Test.YtnldlbglgalbaabPqL
namespace Go.Proofs.Ytnldlbglgalbaab
open Go.RowKit

theorem Pq.okF_drop {l : List Pq} {j : Nat} (h : j < l.length) : Pq.okF (l.drop j) j = ((l[j].h.ok j && l[j].u.ok j) && Pq.okF (l.drop (j + 1)) ((j + 1 : Nat) : Int)) := by
  rw [List.drop_eq_getElem_cons h, Pq.okF]
  rfl
theorem Vu.er_eq {x y : Vu} (h : x.er = y.er) : x = y := by
  obtain ⟨e1, e2, e3⟩ := Vu.er_parts h
  cases x; cases y
  simp_all
theorem Pq.er_eq {x y : Pq} (h : x.er = y.er) : x = y := by
  obtain ⟨e1, e2⟩ := Pq.er_parts h
  have f1 := Vu.er_eq e1
  have f2 := Vu.er_eq e2
  cases x; cases y
  simp_all
theorem Pq.map_er {l k : List Pq} (h : l.map Pq.er = k.map Pq.er) : l = k := by
  induction l generalizing k with
  | nil => cases k with
    | nil => rfl
    | cons _ _ => simp at h
  | cons a r ih => cases k with
    | nil => simp at h
    | cons b s =>
      simp only [List.map_cons, List.cons.injEq] at h
      rw [Pq.er_eq h.1, ih h.2]
theorem Pq.okF_eq {l : List Pq} {j : Nat} (h : j < l.length) {R : Bool} (hr : Pq.okF (l.drop j) j = R) (h1 : l[j].h.ok j = true) (h2 : l[j].u.ok j = true) : Pq.okF (l.drop (j + 1)) ((j + 1 : Nat) : Int) = R := by
  rw [← hr, Pq.okF_drop h, h1, h2]; rfl
theorem Pq.okF_no {l : List Pq} {j : Nat} (h : j < l.length) {R : Bool} (hr : Pq.okF (l.drop j) j = R) (h1 : (l[j].h.ok j && l[j].u.ok j) = false) : R = false := by
  rw [← hr, Pq.okF_drop h, h1]; rfl

set_option maxRecDepth 100000 in
set_option maxHeartbeats 4000000 in
theorem implAp_any (A : Option Addr) (c : Nat) (l : List Pq) (B : Nat) (w : World) (hin : Pq.E.LIn w B A c l) (hB : B ≤ w.heap.size) :
    Calls Try.prog 24 #[.slice A l.length c] w fun e w' => e = .returned (.bool (Pq.okL l)) ∧ Below w.heap.size w w' := by
  have hcap := hin.cap
  have K : Hid (Pq.okL l = (Pq.okF l 0 && decide (l.length ≤ 2000))) := rfl
  obtain ⟨R, hR⟩ : ∃ R, R = Pq.okF l 0 := ⟨_, rfl⟩
  rw [← hR] at K
  have HR : Hid (Pq.okF (l.drop 0) ((0 : Nat) : Int) = R) := hR.symm
  clear hR
  by_cases hlen : 2000 < l.length
  · have hg : ((l.length : Int) > 2000) := by omega
    have HQ : Hid (Pq.okL l = false) := by show _ = _; rw [K.out, decide_eq_false (by omega)]; exact Bool.and_false _
    go_enter Try.func24, Try.ntmps24
    go_wp2_with fail
    go_ret
    exact ⟨ret_bool HQ.out.symm, Below.refl _ _⟩
  · have hg : ¬ ((l.length : Int) > 2000) := by omega
    go_enter Try.func24, Try.ntmps24
    go_wp2_with fail
    go_loopw [10] (fun i wr => ∃ j : Nat, j ≤ l.length ∧ i = .int .i64 j ∧ Hid (Pq.okF (l.drop j) (j : Int) = R) ∧ Below w.heap.size w wr) (fun i _ => l.length - (intOf i).toNat)
    case atStart => exact ⟨0, Nat.zero_le _, rfl, HR, Below.refl _ _⟩
    case round =>
      clear HR
      obtain ⟨j, hj, rfl, HE, hb⟩ := hrel
      have hs2 := hb.size
      by_cases hlt : j < l.length
      · obtain ⟨b, o, rfl, hblk, c0, c1, c2, c3, c4, c5, hix⟩ := Pq.at_ (hin.below (hb.mono hB)) (i := j) (x := l[j]) (List.getElem?_eq_getElem hlt)
        have hi1 : l[j].h.t.size ≤ 9223372036854775807 := (Vu.E_in (Pq.E_in hix).h).t
        have hi2 : l[j].u.t.size ≤ 9223372036854775807 := (Vu.E_in (Pq.E_in hix).u).t
        have g1 : (0 : Int) ≤ (j : Int) := by omega
        have g2 : (j : Int) < (l.length : Int) := by omega
        obtain ⟨W2, hW2⟩ : ∃ W2, W2 = wr.alloc (.cells #[.int .i64 l[j].h.k, .int .i64 l[j].h.n, .string l[j].h.t, .int .i64 l[j].u.k, .int .i64 l[j].u.n, .string l[j].u.t] 48) := ⟨_, rfl⟩
        have bA : Below wr.heap.size wr W2 := by rw [hW2]; exact (Below.refl _ _).alloc (Nat.le_refl _) _
        have lw : wr.heap.size < W2.heap.size := by rw [hW2]; simp
        have X2 : Pq.Box W2 wr.heap.size l[j] := by rw [hW2]; exact Pq.Box.new _ _ _
        have NO := fun h => Pq.okF_no hlt HE.out h
        have YES := fun h h' => Pq.okF_eq hlt HE.out h h'
        have hc1 : ∀ w, Calls Try.prog 22 #[.agg #[.int .i64 l[j].h.k, .int .i64 l[j].h.n, .string l[j].h.t], .int .i64 j] w fun e w' => e = .returned (.bool (l[j].h.ok j)) ∧ Below w.heap.size w w' := fun w => among_any l[j].h j w hi1
        have hc2 : ∀ w, Calls Try.prog 22 #[.agg #[.int .i64 l[j].u.k, .int .i64 l[j].u.n, .string l[j].u.t], .int .i64 j] w fun e w' => e = .returned (.bool (l[j].u.ok j)) ∧ Below w.heap.size w w' := fun w => among_any l[j].u j w hi2
        obtain ⟨X, hX⟩ : ∃ X, X = l[j].h.ok j := ⟨_, rfl⟩
        obtain ⟨Y, hY⟩ : ∃ Y, Y = l[j].u.ok j := ⟨_, rfl⟩
        rw [← hX] at hc1 NO YES
        rw [← hY] at hc2 NO YES
        clear hX hY hix
        have HC1 := Lib.hid hc1
        have HC2 := Lib.hid hc2
        have HNO := Lib.hid NO
        have HYES := Lib.hid YES
        clear hc1 hc2 NO YES
        go_upto_region 6 with fail
        rw [← hW2]
        clear hW2 c0 c1 c2 c3 c4 c5
        have XA := Lib.hid X2
        obtain ⟨a0, a1, a2, a3, a4, a5⟩ := X2
        go_wp2_with fail
        clear a0 a1 a2 a3 a4 a5
        refine (HC1.out W2).mono ?_
        rintro e w3 ⟨rfl, hb3⟩
        have z3 := hb3.size
        have X3 := XA.out.below hb3 (by omega)
        obtain ⟨a0, a1, a2, a3, a4, a5⟩ := X3
        cases X
        · have HQ : Hid (Pq.okL l = false) := by show _ = _; rw [K.out, HNO.out rfl]; rfl
          go_wp2_with fail
          have hbx : Below w.heap.size w w3 := hb.trans ((bA.trans (hb3.mono (by omega))).mono (by omega))
          go_ret
          exact ⟨ret_bool HQ.out.symm, hbx⟩
        · cases Y
          · have HQ : Hid (Pq.okL l = false) := by show _ = _; rw [K.out, HNO.out rfl]; rfl
            go_wp2_with fail
            clear a0 a1 a2 a3 a4 a5
            refine (HC2.out w3).mono ?_
            rintro e w4 ⟨rfl, hb4⟩
            go_wp2_with fail
            have hbx : Below w.heap.size w w4 := hb.trans ((bA.trans ((hb3.trans (hb4.mono (by omega))).mono (by omega))).mono (by omega))
            go_ret
            exact ⟨ret_bool HQ.out.symm, hbx⟩
          · have HE2 := Lib.hid (HYES.out rfl rfl)
            go_wp2_with fail
            clear a0 a1 a2 a3 a4 a5
            refine (HC2.out w3).mono ?_
            rintro e w4 ⟨rfl, hb4⟩
            go_wp2_with fail
            have hbx : Below w.heap.size w w4 := hb.trans ((bA.trans ((hb3.trans (hb4.mono (by omega))).mono (by omega))).mono (by omega))
            exact ⟨⟨j + 1, by omega, by go_num, HE2.out, hbx⟩, by simp [intOf]; omega⟩
      · have hj' : j = l.length := by omega
        have hr : R = true := by rw [← HE.out, List.drop_eq_nil_of_le (by omega)]; rfl
        have HQ : Hid (Pq.okL l = true) := by show _ = _; rw [K.out, hr, decide_eq_true (by omega)]; rfl
        subst hj'
        go_wp2_with fail
        go_ret
        exact ⟨ret_bool HQ.out.symm, hb⟩

set_option maxRecDepth 100000 in
set_option maxHeartbeats 4000000 in
theorem specAp_any (A : Option Addr) (c : Nat) (l : List Pq) (B : Nat) (w : World) (hin : Pq.E.LIn w B A c l) (hB : B ≤ w.heap.size) :
    Calls Try.prog 16 #[.slice A l.length c] w fun e w' => e = .returned (.bool (Pq.okL l)) ∧ Below w.heap.size w w' := by
  have hcap := hin.cap
  have K : Hid (Pq.okL l = (Pq.okF l 0 && decide (l.length ≤ 2000))) := rfl
  obtain ⟨R, hR⟩ : ∃ R, R = Pq.okF l 0 := ⟨_, rfl⟩
  rw [← hR] at K
  have HR : Hid (Pq.okF (l.drop 0) ((0 : Nat) : Int) = R) := hR.symm
  clear hR
  go_enter Try.func16, Try.ntmps16
  go_wp2_with fail
  go_loopw [7] (fun i wr => ∃ j : Nat, j ≤ l.length ∧ i = .int .i64 j ∧ Hid (Pq.okF (l.drop j) (j : Int) = R) ∧ Below w.heap.size w wr) (fun i _ => l.length - (intOf i).toNat)
  case atStart => exact ⟨0, Nat.zero_le _, rfl, HR, Below.refl _ _⟩
  case round =>
    clear HR
    obtain ⟨j, hj, rfl, HE, hb⟩ := hrel
    have hs2 := hb.size
    by_cases hlt : j < l.length
    · obtain ⟨b, o, rfl, hblk, c0, c1, c2, c3, c4, c5, hix⟩ := Pq.at_ (hin.below (hb.mono hB)) (i := j) (x := l[j]) (List.getElem?_eq_getElem hlt)
      have hi1 : l[j].h.t.size ≤ 9223372036854775807 := (Vu.E_in (Pq.E_in hix).h).t
      have hi2 : l[j].u.t.size ≤ 9223372036854775807 := (Vu.E_in (Pq.E_in hix).u).t
      have g1 : (0 : Int) ≤ (j : Int) := by omega
      have g2 : (j : Int) < (l.length : Int) := by omega
      obtain ⟨W2, hW2⟩ : ∃ W2, W2 = wr.alloc (.cells #[.int .i64 l[j].h.k, .int .i64 l[j].h.n, .string l[j].h.t, .int .i64 l[j].u.k, .int .i64 l[j].u.n, .string l[j].u.t] 48) := ⟨_, rfl⟩
      have bA : Below wr.heap.size wr W2 := by rw [hW2]; exact (Below.refl _ _).alloc (Nat.le_refl _) _
      have lw : wr.heap.size < W2.heap.size := by rw [hW2]; simp
      have X2 : Pq.Box W2 wr.heap.size l[j] := by rw [hW2]; exact Pq.Box.new _ _ _
      have NO := fun h => Pq.okF_no hlt HE.out h
      have YES := fun h h' => Pq.okF_eq hlt HE.out h h'
      have hc1 : ∀ w, Calls Try.prog 17 #[.agg #[.int .i64 l[j].h.k, .int .i64 l[j].h.n, .string l[j].h.t], .int .i64 j] w fun e w' => e = .returned (.bool (l[j].h.ok j)) ∧ Below w.heap.size w w' := fun w => l8Value_any l[j].h j w hi1 ⟨by omega, by omega⟩
      have hc2 : ∀ w, Calls Try.prog 17 #[.agg #[.int .i64 l[j].u.k, .int .i64 l[j].u.n, .string l[j].u.t], .int .i64 j] w fun e w' => e = .returned (.bool (l[j].u.ok j)) ∧ Below w.heap.size w w' := fun w => l8Value_any l[j].u j w hi2 ⟨by omega, by omega⟩
      obtain ⟨X, hX⟩ : ∃ X, X = l[j].h.ok j := ⟨_, rfl⟩
      obtain ⟨Y, hY⟩ : ∃ Y, Y = l[j].u.ok j := ⟨_, rfl⟩
      rw [← hX] at hc1 NO YES
      rw [← hY] at hc2 NO YES
      clear hX hY hix
      have HC1 := Lib.hid hc1
      have HC2 := Lib.hid hc2
      have HNO := Lib.hid NO
      have HYES := Lib.hid YES
      clear hc1 hc2 NO YES
      go_upto_region 4 with fail
      rw [← hW2]
      clear hW2 c0 c1 c2 c3 c4 c5
      have XA := Lib.hid X2
      obtain ⟨a0, a1, a2, a3, a4, a5⟩ := X2
      go_wp2_with fail
      clear a0 a1 a2 a3 a4 a5
      refine (HC1.out W2).mono ?_
      rintro e w3 ⟨rfl, hb3⟩
      have z3 := hb3.size
      have X3 := XA.out.below hb3 (by omega)
      obtain ⟨a0, a1, a2, a3, a4, a5⟩ := X3
      cases X
      · have HQ : Hid (Pq.okL l = false) := by show _ = _; rw [K.out, HNO.out rfl]; rfl
        go_wp2_with fail
        have hbx : Below w.heap.size w w3 := hb.trans ((bA.trans (hb3.mono (by omega))).mono (by omega))
        go_ret
        exact ⟨ret_bool HQ.out.symm, hbx⟩
      · cases Y
        · have HQ : Hid (Pq.okL l = false) := by show _ = _; rw [K.out, HNO.out rfl]; rfl
          go_wp2_with fail
          clear a0 a1 a2 a3 a4 a5
          refine (HC2.out w3).mono ?_
          rintro e w4 ⟨rfl, hb4⟩
          go_wp2_with fail
          have hbx : Below w.heap.size w w4 := hb.trans ((bA.trans ((hb3.trans (hb4.mono (by omega))).mono (by omega))).mono (by omega))
          go_ret
          exact ⟨ret_bool HQ.out.symm, hbx⟩
        · have HE2 := Lib.hid (HYES.out rfl rfl)
          go_wp2_with fail
          clear a0 a1 a2 a3 a4 a5
          refine (HC2.out w3).mono ?_
          rintro e w4 ⟨rfl, hb4⟩
          go_wp2_with fail
          have hbx : Below w.heap.size w w4 := hb.trans ((bA.trans ((hb3.trans (hb4.mono (by omega))).mono (by omega))).mono (by omega))
          exact ⟨⟨j + 1, by omega, by go_num, HE2.out, hbx⟩, by simp [intOf]; omega⟩
    · have hj' : j = l.length := by omega
      have hr : R = true := by rw [← HE.out, List.drop_eq_nil_of_le (by omega)]; rfl
      subst hj'
      by_cases hlen : l.length ≤ 2000
      · have hg : decide ((l.length : Int) ≤ 2000) = true := decide_eq_true (by omega)
        have HQ : Hid (Pq.okL l = true) := by show _ = _; rw [K.out, hr, decide_eq_true hlen]; rfl
        go_wp2_with fail
        go_ret
        exact ⟨ret_bool (by rw [HQ.out]), hb⟩
      · have hg : decide ((l.length : Int) ≤ 2000) = false := decide_eq_false (by omega)
        have HQ : Hid (Pq.okL l = false) := by show _ = _; rw [K.out, decide_eq_false hlen]; exact Bool.and_false _
        go_wp2_with fail
        go_ret
        exact ⟨ret_bool (by rw [HQ.out]), hb⟩

end Go.Proofs.Ytnldlbglgalbaab
