/-
  EqualOutcomes of the model and of the program (written by gen/oute.py).
-/
import Derived.Test.YtnldlbglgalbaaaOuQ
import Derived.Test.YtnldlbglgalbaaaNear
import Derived.Deep.DeepCutAuto
namespace Go.Proofs.Ytnldlbglgalbaaa
open Go.RowKit

/-- The same texts. -/
def Sg.same : List Sg → List Sg → Bool | [], [] => true | x :: r, y :: s => (ByteArray.toList x == ByteArray.toList y) && Sg.same r s | _, _ => false
theorem Sg.same_len {l l' : List Sg} (h : l.length ≠ l'.length) : Sg.same l l' = false := by
  induction l generalizing l' with
  | nil => cases l' with
    | nil => simp at h
    | cons _ _ => rfl
  | cons a r ih => cases l' with
    | nil => rfl
    | cons b s => simp only [Sg.same, ih (l' := s) (by simpa using h), Bool.and_false]
theorem Sg.same_drop {l l' : List Sg} {j : Nat} (h : j < l.length) (h' : j < l'.length) : Sg.same (l.drop j) (l'.drop j) = ((ByteArray.toList l[j] == ByteArray.toList l'[j]) && Sg.same (l.drop (j + 1)) (l'.drop (j + 1))) := by
  rw [List.drop_eq_getElem_cons h, List.drop_eq_getElem_cons h', Sg.same]
def Ou.same (a b : Ou) : Bool := (a.s == b.s) && ((a.t.toList == b.t.toList) && (Sg.same a.o b.o && ((a.i == b.i) && (a.m == b.m))))
theorem Ou.er_eq {x y : Ou} (h : x.er = y.er) : x.s = y.s ∧ x.t = y.t ∧ x.o = y.o ∧ x.i = y.i ∧ x.m = y.m := by
  obtain ⟨e1, e2, e3, e4, e5⟩ := Ou.er_parts h
  rw [Sg.map_er, Sg.map_er] at e3
  exact ⟨e1, e2, e3, e4, e5⟩
theorem Ou.same_er {a b c d : Ou} (h : a.er = c.er) (k : b.er = d.er) : Ou.same a b = Ou.same c d := by
  obtain ⟨e1, e2, e3, e4, e5⟩ := Ou.er_eq h
  obtain ⟨f1, f2, f3, f4, f5⟩ := Ou.er_eq k
  unfold Ou.same
  rw [e1, e2, e3, e4, e5, f1, f2, f3, f4, f5]

set_option maxRecDepth 100000 in
set_option maxHeartbeats 1000000 in
theorem sgEqual_any (A : Option Addr) (c : Nat) (l : List Sg) (A' : Option Addr) (c' : Nat) (l' : List Sg) (B : Nat) (w : World) (hin : Sg.E.LIn w B A c l) (hin' : Sg.E.LIn w B A' c' l') (hB : B ≤ w.heap.size) :
    Calls Try.prog 47 #[.slice A l.length c, .slice A' l'.length c'] w fun e w' => e = .returned (.bool (Sg.same l l')) ∧ Below w.heap.size w w' := by
  have hcap := hin.cap
  have hcap' := hin'.cap
  by_cases hlen : l.length = l'.length
  · have hn1 : ((l.length : Int) != (l'.length : Int)) = false := by simp [hlen]
    have hlen1 : l'.length ≤ l.length := by omega
    have hlen2 : l.length ≤ l'.length := by omega
    clear hlen
    go_enter Try.func47, Try.ntmps47
    go_wp2_with fail
    go_loopw [13] (fun i wr => ∃ j : Nat, j ≤ l.length ∧ i = .int .i64 j ∧ Hid (Sg.same (l.drop j) (l'.drop j) = Sg.same l l') ∧ Below w.heap.size w wr) (fun i _ => l.length - (intOf i).toNat)
    case atStart => exact ⟨0, Nat.zero_le _, rfl, by simp [Hid], Below.refl _ _⟩
    case round =>
      obtain ⟨j, hj, rfl, HE, hb⟩ := hrel
      have hs2 := hb.size
      by_cases hlt : j < l.length
      · have hlt' : j < l'.length := by omega
        obtain ⟨b, o, rfl, hblk, c0, _⟩ := Sg.at_ (hin.below (hb.mono hB)) (i := j) (x := l[j]) (List.getElem?_eq_getElem hlt)
        obtain ⟨b', o', rfl, hblk', c0', _⟩ := Sg.at_ (hin'.below (hb.mono hB)) (i := j) (x := l'[j]) (List.getElem?_eq_getElem hlt')
        have g2 : (j : Int) < (l.length : Int) := by omega
        have g3 : (j : Int) < (l'.length : Int) := by omega
        have HS := Lib.hid (Sg.same_drop hlt hlt')
        cases hq : ByteArray.toList l[j] == ByteArray.toList l'[j]
        · have HQ : Hid (Sg.same l l' = false) := by show _ = _; rw [← HE.out, HS.out, hq]; rfl
          go_wp2_with fail
          go_region
          all_goals go_wp2_with fail
          all_goals go_ret
          all_goals exact ⟨ret_bool HQ.out.symm, hb.drew⟩
        · have HQ : Hid (Sg.same (l.drop (j + 1)) (l'.drop (j + 1)) = Sg.same l l') := by show _ = _; rw [← HE.out, HS.out, hq]; rfl
          go_wp2_with fail
          go_region
          all_goals go_wp2_with fail
          all_goals refine ⟨⟨j + 1, by omega, by go_num, HQ, hb.drew⟩, by simp [intOf]; omega⟩
      · have hj' : j = l.length := by omega
        have HQ : Hid (Sg.same l l' = true) := by show _ = _; rw [← HE.out, List.drop_eq_nil_of_le (by omega), List.drop_eq_nil_of_le (by omega)]; rfl
        go_wp2_with fail
        go_ret
        exact ⟨ret_bool HQ.out.symm, hb⟩
  · have hn1 : ((l.length : Int) != (l'.length : Int)) = true := by simp; omega
    have HQ : Hid (Sg.same l l' = false) := Sg.same_len hlen
    clear hlen
    go_enter Try.func47, Try.ntmps47
    go_wp2_with fail
    go_ret
    exact ⟨ret_bool HQ.out.symm, Below.refl _ _⟩

set_option maxRecDepth 100000 in
set_option maxHeartbeats 1000000 in
theorem l8Same_any (A : Option Addr) (c : Nat) (l : List Sg) (A' : Option Addr) (c' : Nat) (l' : List Sg) (B : Nat) (w : World) (hin : Sg.E.LIn w B A c l) (hin' : Sg.E.LIn w B A' c' l') (hB : B ≤ w.heap.size) :
    Calls Try.prog 45 #[.slice A l.length c, .slice A' l'.length c'] w fun e w' => e = .returned (.bool (Sg.same l l')) ∧ Below w.heap.size w w' := by
  have hcap := hin.cap
  have hcap' := hin'.cap
  by_cases hlen : l.length = l'.length
  · have hn1 : ((l.length : Int) != (l'.length : Int)) = false := by simp [hlen]
    have hlen1 : l'.length ≤ l.length := by omega
    have hlen2 : l.length ≤ l'.length := by omega
    clear hlen
    go_enter Try.func45, Try.ntmps45
    go_wp2_with fail
    go_loopw [13] (fun i wr => ∃ j : Nat, j ≤ l.length ∧ i = .int .i64 j ∧ Hid (Sg.same (l.drop j) (l'.drop j) = Sg.same l l') ∧ Below w.heap.size w wr) (fun i _ => l.length - (intOf i).toNat)
    case atStart => exact ⟨0, Nat.zero_le _, rfl, by simp [Hid], Below.refl _ _⟩
    case round =>
      obtain ⟨j, hj, rfl, HE, hb⟩ := hrel
      have hs2 := hb.size
      by_cases hlt : j < l.length
      · have hlt' : j < l'.length := by omega
        obtain ⟨b, o, rfl, hblk, c0, _⟩ := Sg.at_ (hin.below (hb.mono hB)) (i := j) (x := l[j]) (List.getElem?_eq_getElem hlt)
        obtain ⟨b', o', rfl, hblk', c0', _⟩ := Sg.at_ (hin'.below (hb.mono hB)) (i := j) (x := l'[j]) (List.getElem?_eq_getElem hlt')
        have g2 : (j : Int) < (l.length : Int) := by omega
        have g3 : (j : Int) < (l'.length : Int) := by omega
        have HS := Lib.hid (Sg.same_drop hlt hlt')
        cases hq : ByteArray.toList l[j] == ByteArray.toList l'[j]
        · have HQ : Hid (Sg.same l l' = false) := by show _ = _; rw [← HE.out, HS.out, hq]; rfl
          go_wp2_with fail
          go_region
          all_goals go_wp2_with fail
          all_goals go_ret
          all_goals exact ⟨ret_bool HQ.out.symm, hb.drew⟩
        · have HQ : Hid (Sg.same (l.drop (j + 1)) (l'.drop (j + 1)) = Sg.same l l') := by show _ = _; rw [← HE.out, HS.out, hq]; rfl
          go_wp2_with fail
          go_region
          all_goals go_wp2_with fail
          all_goals refine ⟨⟨j + 1, by omega, by go_num, HQ, hb.drew⟩, by simp [intOf]; omega⟩
      · have hj' : j = l.length := by omega
        have HQ : Hid (Sg.same l l' = true) := by show _ = _; rw [← HE.out, List.drop_eq_nil_of_le (by omega), List.drop_eq_nil_of_le (by omega)]; rfl
        go_wp2_with fail
        go_ret
        exact ⟨ret_bool HQ.out.symm, hb⟩
  · have hn1 : ((l.length : Int) != (l'.length : Int)) = true := by simp; omega
    have HQ : Hid (Sg.same l l' = false) := Sg.same_len hlen
    clear hlen
    go_enter Try.func45, Try.ntmps45
    go_wp2_with fail
    go_ret
    exact ⟨ret_bool HQ.out.symm, Below.refl _ _⟩

set_option maxRecDepth 100000 in
set_option maxHeartbeats 2000000 in
theorem specEqOu_any (a b : Ou) (B : Nat) (w : World) (ha : Ou.E.In w B a) (hb : Ou.E.In w B b) (hB : B ≤ w.heap.size) :
    Calls Try.prog 21 #[Ou.val a, Ou.val b] w fun e w' => e = .returned (.bool (Ou.same a b)) ∧ Below w.heap.size w w' := by
  have K : Hid (Ou.same a b = ((a.s == b.s) && ((a.t.toList == b.t.toList) && (Sg.same a.o b.o && ((a.i == b.i) && (a.m == b.m)))))) := rfl
  obtain ⟨W1, hW1⟩ : ∃ W1, W1 = (w.alloc (.cells #[.int .i64 a.s, .string a.t, .slice a.oA a.o.length a.oC, .int .i64 a.i, .int .i64 a.m] 43)).alloc (.cells #[.int .i64 b.s, .string b.t, .slice b.oA b.o.length b.oC, .int .i64 b.i, .int .i64 b.m] 43) := ⟨_, rfl⟩
  have b1 : Below w.heap.size w W1 := by rw [hW1]; exact ((Below.refl _ _).alloc (Nat.le_refl _) _).alloc (by simp) _
  have z1 : w.heap.size + 2 ≤ W1.heap.size := by rw [hW1]; simp
  have xa : Ou.Box W1 w.heap.size a := by rw [hW1]; exact (Ou.Box.new w a _).below ((Below.refl (w.heap.size + 1) _).alloc (by simp) _) (by omega)
  have xb : Ou.Box W1 (w.heap.size + 1) b := by rw [hW1]; have := Ou.Box.new (w.alloc (.cells #[.int .i64 a.s, .string a.t, .slice a.oA a.o.length a.oC, .int .i64 a.i, .int .i64 a.m] 43)) b 43; simpa using this
  unfold Ou.val
  have ho := (Ou.E_in (ha.below (b1.mono hB))).o
  have ho' := (Ou.E_in (hb.below (b1.mono hB))).o
  have hB1 : B ≤ W1.heap.size := by omega
  obtain ⟨XS, hXS⟩ : ∃ X, X = Sg.same a.o b.o := ⟨_, rfl⟩
  have HC : Hid (Calls Try.prog 45 #[.slice a.oA a.o.length a.oC, .slice b.oA b.o.length b.oC] W1 fun e w' => e = .returned (.bool XS) ∧ Below W1.heap.size W1 w') := by
    rw [hXS]
    exact l8Same_any a.oA a.oC a.o b.oA b.oC b.o B W1 ho ho' hB1
  rw [← hXS] at K
  clear hXS ho ho'
  cases q0 : (a.s == b.s)
  · have HQ : Hid (Ou.same a b = false) := by show _ = _; rw [K.out, q0]; rfl
    go_enter Try.func21, Try.ntmps21
    go_upto_region 1 with fail
    rw [← hW1]
    clear hW1
    have XA := Lib.hid xa
    have XB := Lib.hid xb
    obtain ⟨a0, a1, a2, a3, a4⟩ := xa
    obtain ⟨d0, d1, d2, d3, d4⟩ := xb
    go_wp2_with fail
    go_ret
    exact ⟨ret_bool HQ.out.symm, b1⟩
  · skip
    cases q1 : (a.t.toList == b.t.toList)
    · have HQ : Hid (Ou.same a b = false) := by show _ = _; rw [K.out, q0, q1]; rfl
      go_enter Try.func21, Try.ntmps21
      go_upto_region 1 with fail
      rw [← hW1]
      clear hW1
      have XA := Lib.hid xa
      have XB := Lib.hid xb
      obtain ⟨a0, a1, a2, a3, a4⟩ := xa
      obtain ⟨d0, d1, d2, d3, d4⟩ := xb
      go_wp2_with fail
      go_ret
      exact ⟨ret_bool HQ.out.symm, b1⟩
    · skip
      cases XS
      · have HQ : Hid (Ou.same a b = false) := by show _ = _; rw [K.out, q0, q1]; rfl
        go_enter Try.func21, Try.ntmps21
        go_upto_region 1 with fail
        rw [← hW1]
        clear hW1
        have XA := Lib.hid xa
        have XB := Lib.hid xb
        obtain ⟨a0, a1, a2, a3, a4⟩ := xa
        obtain ⟨d0, d1, d2, d3, d4⟩ := xb
        go_wp2_with fail
        clear a0 a1 a2 a3 a4 d0 d1 d2 d3 d4
        refine (HC.out).mono ?_
        rintro e w2 ⟨rfl, hb2⟩
        have z2 := hb2.size
        obtain ⟨a0, a1, a2, a3, a4⟩ := XA.out.below hb2 (by omega)
        obtain ⟨d0, d1, d2, d3, d4⟩ := XB.out.below hb2 (by omega)
        have b1 := b1.trans (hb2.mono (by omega))
        go_wp2_with fail
        go_ret
        exact ⟨ret_bool HQ.out.symm, b1⟩
      · skip
        cases q3 : (a.i == b.i)
        · have HQ : Hid (Ou.same a b = false) := by show _ = _; rw [K.out, q0, q1, q3]; rfl
          go_enter Try.func21, Try.ntmps21
          go_upto_region 1 with fail
          rw [← hW1]
          clear hW1
          have XA := Lib.hid xa
          have XB := Lib.hid xb
          obtain ⟨a0, a1, a2, a3, a4⟩ := xa
          obtain ⟨d0, d1, d2, d3, d4⟩ := xb
          go_wp2_with fail
          clear a0 a1 a2 a3 a4 d0 d1 d2 d3 d4
          refine (HC.out).mono ?_
          rintro e w2 ⟨rfl, hb2⟩
          have z2 := hb2.size
          obtain ⟨a0, a1, a2, a3, a4⟩ := XA.out.below hb2 (by omega)
          obtain ⟨d0, d1, d2, d3, d4⟩ := XB.out.below hb2 (by omega)
          have b1 := b1.trans (hb2.mono (by omega))
          go_wp2_with fail
          go_ret
          exact ⟨ret_bool HQ.out.symm, b1⟩
        · skip
          cases q4 : (a.m == b.m)
          · have HQ : Hid (Ou.same a b = false) := by show _ = _; rw [K.out, q0, q1, q3, q4]; rfl
            go_enter Try.func21, Try.ntmps21
            go_upto_region 1 with fail
            rw [← hW1]
            clear hW1
            have XA := Lib.hid xa
            have XB := Lib.hid xb
            obtain ⟨a0, a1, a2, a3, a4⟩ := xa
            obtain ⟨d0, d1, d2, d3, d4⟩ := xb
            go_wp2_with fail
            clear a0 a1 a2 a3 a4 d0 d1 d2 d3 d4
            refine (HC.out).mono ?_
            rintro e w2 ⟨rfl, hb2⟩
            have z2 := hb2.size
            obtain ⟨a0, a1, a2, a3, a4⟩ := XA.out.below hb2 (by omega)
            obtain ⟨d0, d1, d2, d3, d4⟩ := XB.out.below hb2 (by omega)
            have b1 := b1.trans (hb2.mono (by omega))
            go_wp2_with fail
            go_ret
            exact ⟨ret_bool HQ.out.symm, b1⟩
          · skip
            have HQ : Hid (Ou.same a b = true) := by show _ = _; rw [K.out, q0, q1, q3, q4]; rfl
            go_enter Try.func21, Try.ntmps21
            go_upto_region 1 with fail
            rw [← hW1]
            clear hW1
            have XA := Lib.hid xa
            have XB := Lib.hid xb
            obtain ⟨a0, a1, a2, a3, a4⟩ := xa
            obtain ⟨d0, d1, d2, d3, d4⟩ := xb
            go_wp2_with fail
            clear a0 a1 a2 a3 a4 d0 d1 d2 d3 d4
            refine (HC.out).mono ?_
            rintro e w2 ⟨rfl, hb2⟩
            have z2 := hb2.size
            obtain ⟨a0, a1, a2, a3, a4⟩ := XA.out.below hb2 (by omega)
            obtain ⟨d0, d1, d2, d3, d4⟩ := XB.out.below hb2 (by omega)
            have b1 := b1.trans (hb2.mono (by omega))
            go_wp2_with fail
            go_ret
            exact ⟨ret_bool HQ.out.symm, b1⟩

set_option maxRecDepth 100000 in
set_option maxHeartbeats 2000000 in
theorem implEqOu_any (a b : Ou) (B : Nat) (w : World) (ha : Ou.E.In w B a) (hb : Ou.E.In w B b) (hB : B ≤ w.heap.size) :
    Calls Try.prog 23 #[Ou.val a, Ou.val b] w fun e w' => e = .returned (.bool (Ou.same a b)) ∧ Below w.heap.size w w' := by
  have K : Hid (Ou.same a b = ((a.s == b.s) && ((a.t.toList == b.t.toList) && (Sg.same a.o b.o && ((a.i == b.i) && (a.m == b.m)))))) := rfl
  obtain ⟨W1, hW1⟩ : ∃ W1, W1 = (w.alloc (.cells #[.int .i64 a.s, .string a.t, .slice a.oA a.o.length a.oC, .int .i64 a.i, .int .i64 a.m] 43)).alloc (.cells #[.int .i64 b.s, .string b.t, .slice b.oA b.o.length b.oC, .int .i64 b.i, .int .i64 b.m] 43) := ⟨_, rfl⟩
  have b1 : Below w.heap.size w W1 := by rw [hW1]; exact ((Below.refl _ _).alloc (Nat.le_refl _) _).alloc (by simp) _
  have z1 : w.heap.size + 2 ≤ W1.heap.size := by rw [hW1]; simp
  have xa : Ou.Box W1 w.heap.size a := by rw [hW1]; exact (Ou.Box.new w a _).below ((Below.refl (w.heap.size + 1) _).alloc (by simp) _) (by omega)
  have xb : Ou.Box W1 (w.heap.size + 1) b := by rw [hW1]; have := Ou.Box.new (w.alloc (.cells #[.int .i64 a.s, .string a.t, .slice a.oA a.o.length a.oC, .int .i64 a.i, .int .i64 a.m] 43)) b 43; simpa using this
  unfold Ou.val
  have ho := (Ou.E_in (ha.below (b1.mono hB))).o
  have ho' := (Ou.E_in (hb.below (b1.mono hB))).o
  have hB1 : B ≤ W1.heap.size := by omega
  obtain ⟨XS, hXS⟩ : ∃ X, X = Sg.same a.o b.o := ⟨_, rfl⟩
  have HC : Hid (Calls Try.prog 47 #[.slice a.oA a.o.length a.oC, .slice b.oA b.o.length b.oC] W1 fun e w' => e = .returned (.bool XS) ∧ Below W1.heap.size W1 w') := by
    rw [hXS]
    exact sgEqual_any a.oA a.oC a.o b.oA b.oC b.o B W1 ho ho' hB1
  rw [← hXS] at K
  clear hXS ho ho'
  cases q0 : (a.s == b.s)
  · have HQ : Hid (Ou.same a b = false) := by show _ = _; rw [K.out, q0]; rfl
    go_enter Try.func23, Try.ntmps23
    go_upto_region 1 with fail
    rw [← hW1]
    clear hW1
    have XA := Lib.hid xa
    have XB := Lib.hid xb
    obtain ⟨a0, a1, a2, a3, a4⟩ := xa
    obtain ⟨d0, d1, d2, d3, d4⟩ := xb
    go_wp2_with fail
    go_ret
    exact ⟨ret_bool HQ.out.symm, b1⟩
  · skip
    cases q1 : (a.t.toList == b.t.toList)
    · have HQ : Hid (Ou.same a b = false) := by show _ = _; rw [K.out, q0, q1]; rfl
      go_enter Try.func23, Try.ntmps23
      go_upto_region 1 with fail
      rw [← hW1]
      clear hW1
      have XA := Lib.hid xa
      have XB := Lib.hid xb
      obtain ⟨a0, a1, a2, a3, a4⟩ := xa
      obtain ⟨d0, d1, d2, d3, d4⟩ := xb
      go_wp2_with fail
      go_ret
      exact ⟨ret_bool HQ.out.symm, b1⟩
    · skip
      cases XS
      · have HQ : Hid (Ou.same a b = false) := by show _ = _; rw [K.out, q0, q1]; rfl
        go_enter Try.func23, Try.ntmps23
        go_upto_region 1 with fail
        rw [← hW1]
        clear hW1
        have XA := Lib.hid xa
        have XB := Lib.hid xb
        obtain ⟨a0, a1, a2, a3, a4⟩ := xa
        obtain ⟨d0, d1, d2, d3, d4⟩ := xb
        go_wp2_with fail
        clear a0 a1 a2 a3 a4 d0 d1 d2 d3 d4
        refine (HC.out).mono ?_
        rintro e w2 ⟨rfl, hb2⟩
        have z2 := hb2.size
        obtain ⟨a0, a1, a2, a3, a4⟩ := XA.out.below hb2 (by omega)
        obtain ⟨d0, d1, d2, d3, d4⟩ := XB.out.below hb2 (by omega)
        have b1 := b1.trans (hb2.mono (by omega))
        go_wp2_with fail
        go_ret
        exact ⟨ret_bool HQ.out.symm, b1⟩
      · skip
        cases q3 : (a.i == b.i)
        · have HQ : Hid (Ou.same a b = false) := by show _ = _; rw [K.out, q0, q1, q3]; rfl
          go_enter Try.func23, Try.ntmps23
          go_upto_region 1 with fail
          rw [← hW1]
          clear hW1
          have XA := Lib.hid xa
          have XB := Lib.hid xb
          obtain ⟨a0, a1, a2, a3, a4⟩ := xa
          obtain ⟨d0, d1, d2, d3, d4⟩ := xb
          go_wp2_with fail
          clear a0 a1 a2 a3 a4 d0 d1 d2 d3 d4
          refine (HC.out).mono ?_
          rintro e w2 ⟨rfl, hb2⟩
          have z2 := hb2.size
          obtain ⟨a0, a1, a2, a3, a4⟩ := XA.out.below hb2 (by omega)
          obtain ⟨d0, d1, d2, d3, d4⟩ := XB.out.below hb2 (by omega)
          have b1 := b1.trans (hb2.mono (by omega))
          go_wp2_with fail
          go_ret
          exact ⟨ret_bool HQ.out.symm, b1⟩
        · skip
          cases q4 : (a.m == b.m)
          · have HQ : Hid (Ou.same a b = false) := by show _ = _; rw [K.out, q0, q1, q3, q4]; rfl
            go_enter Try.func23, Try.ntmps23
            go_upto_region 1 with fail
            rw [← hW1]
            clear hW1
            have XA := Lib.hid xa
            have XB := Lib.hid xb
            obtain ⟨a0, a1, a2, a3, a4⟩ := xa
            obtain ⟨d0, d1, d2, d3, d4⟩ := xb
            go_wp2_with fail
            clear a0 a1 a2 a3 a4 d0 d1 d2 d3 d4
            refine (HC.out).mono ?_
            rintro e w2 ⟨rfl, hb2⟩
            have z2 := hb2.size
            obtain ⟨a0, a1, a2, a3, a4⟩ := XA.out.below hb2 (by omega)
            obtain ⟨d0, d1, d2, d3, d4⟩ := XB.out.below hb2 (by omega)
            have b1 := b1.trans (hb2.mono (by omega))
            go_wp2_with fail
            go_ret
            exact ⟨ret_bool HQ.out.symm, b1⟩
          · skip
            have HQ : Hid (Ou.same a b = true) := by show _ = _; rw [K.out, q0, q1, q3, q4]; rfl
            go_enter Try.func23, Try.ntmps23
            go_upto_region 1 with fail
            rw [← hW1]
            clear hW1
            have XA := Lib.hid xa
            have XB := Lib.hid xb
            obtain ⟨a0, a1, a2, a3, a4⟩ := xa
            obtain ⟨d0, d1, d2, d3, d4⟩ := xb
            go_wp2_with fail
            clear a0 a1 a2 a3 a4 d0 d1 d2 d3 d4
            refine (HC.out).mono ?_
            rintro e w2 ⟨rfl, hb2⟩
            have z2 := hb2.size
            obtain ⟨a0, a1, a2, a3, a4⟩ := XA.out.below hb2 (by omega)
            obtain ⟨d0, d1, d2, d3, d4⟩ := XB.out.below hb2 (by omega)
            have b1 := b1.trans (hb2.mono (by omega))
            go_wp2_with fail
            go_ret
            exact ⟨ret_bool HQ.out.symm, b1⟩
end Go.Proofs.Ytnldlbglgalbaaa
