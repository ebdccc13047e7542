/-
  EqualImages of the model and of the program (written by gen/imeq.py).
-/
import Derived.Test.YtpigpncbjckbcaaImQ
import Derived.Test.YtpigpncbjckbcaaEqd
import Derived.Test.YtpigpncbjckbcaaNear
import Derived.Deep.DeepCutAuto
namespace Go.Proofs.Ytpigpncbjckbcaa
open Go.RowKit

def Nt.eqB (x y : Nt) : Bool := (x.o == y.o) && ((x.i == y.i) && D.eqB x.t y.t)
def Nt.eqR : List Nt → List Nt → Bool | [], [] => true | x :: r, y :: s => Nt.eqB x y && Nt.eqR r s | _, _ => false
def Cd.eqB (x y : Cd) : Bool := (x.p == y.p) && ((x.s == y.s) && ((x.c == y.c) && Nt.eqR x.l y.l))
def Cd.eqR : List Cd → List Cd → Bool | [], [] => true | x :: r, y :: s => Cd.eqB x y && Cd.eqR r s | _, _ => false
def Im.eqB (x y : Im) : Bool := (x.m == y.m) && Cd.eqR x.l y.l
theorem Nt.eqR_len {l l' : List Nt} (h : l.length ≠ l'.length) : Nt.eqR l l' = false := by
  induction l generalizing l' with
  | nil => cases l' with
    | nil => simp at h
    | cons _ _ => rfl
  | cons a r ih => cases l' with
    | nil => rfl
    | cons b s => simp only [Nt.eqR, ih (l' := s) (by simpa using h), Bool.and_false]
theorem Nt.eqR_drop {l l' : List Nt} {j : Nat} (h : j < l.length) (h' : j < l'.length) : Nt.eqR (l.drop j) (l'.drop j) = (Nt.eqB l[j] l'[j] && Nt.eqR (l.drop (j + 1)) (l'.drop (j + 1))) := by
  rw [List.drop_eq_getElem_cons h, List.drop_eq_getElem_cons h', Nt.eqR]
theorem Nt.eqR_er (hB : ∀ x y x' y' : Nt, x.er = x'.er → y.er = y'.er → Nt.eqB x y = Nt.eqB x' y') : ∀ {l m l' m' : List Nt}, l.map Nt.er = l'.map Nt.er → m.map Nt.er = m'.map Nt.er → Nt.eqR l m = Nt.eqR l' m' := by
  intro l
  induction l with
  | nil =>
    intro m l' m' h k
    cases l' with
    | cons _ _ => simp at h
    | nil => cases m with
      | nil => cases m' with
        | nil => rfl
        | cons _ _ => simp at k
      | cons _ _ => cases m' with
        | nil => simp at k
        | cons _ _ => rfl
  | cons a r ih =>
    intro m l' m' h k
    cases l' with
    | nil => simp at h
    | cons a' r' => cases m with
      | nil => cases m' with
        | nil => rfl
        | cons _ _ => simp at k
      | cons b s => cases m' with
        | nil => simp at k
        | cons b' s' =>
          simp only [List.map_cons, List.cons.injEq] at h k
          simp only [Nt.eqR, hB a b a' b' h.1 k.1, ih h.2 k.2]
theorem Nt.eqB_er (x y x' y' : Nt) (h : x.er = x'.er) (k : y.er = y'.er) : Nt.eqB x y = Nt.eqB x' y' := by
  obtain ⟨e1, e2, e3⟩ := Nt.er_parts h
  obtain ⟨f1, f2, f3⟩ := Nt.er_parts k
  unfold Nt.eqB
  rw [e1, e2, f1, f2, D.eqB_er, e3, f3, ← D.eqB_er]
theorem Cd.eqB_er (x y x' y' : Cd) (h : x.er = x'.er) (k : y.er = y'.er) : Cd.eqB x y = Cd.eqB x' y' := by
  obtain ⟨e1, e2, e3, e4⟩ := Cd.er_parts h
  obtain ⟨f1, f2, f3, f4⟩ := Cd.er_parts k
  unfold Cd.eqB
  rw [e1, e2, e3, f1, f2, f3, Nt.eqR_er Nt.eqB_er e4 f4]
theorem Cd.eqR_len {l l' : List Cd} (h : l.length ≠ l'.length) : Cd.eqR l l' = false := by
  induction l generalizing l' with
  | nil => cases l' with
    | nil => simp at h
    | cons _ _ => rfl
  | cons a r ih => cases l' with
    | nil => rfl
    | cons b s => simp only [Cd.eqR, ih (l' := s) (by simpa using h), Bool.and_false]
theorem Cd.eqR_drop {l l' : List Cd} {j : Nat} (h : j < l.length) (h' : j < l'.length) : Cd.eqR (l.drop j) (l'.drop j) = (Cd.eqB l[j] l'[j] && Cd.eqR (l.drop (j + 1)) (l'.drop (j + 1))) := by
  rw [List.drop_eq_getElem_cons h, List.drop_eq_getElem_cons h', Cd.eqR]
theorem Cd.eqR_er (hB : ∀ x y x' y' : Cd, x.er = x'.er → y.er = y'.er → Cd.eqB x y = Cd.eqB x' y') : ∀ {l m l' m' : List Cd}, l.map Cd.er = l'.map Cd.er → m.map Cd.er = m'.map Cd.er → Cd.eqR l m = Cd.eqR l' m' := by
  intro l
  induction l with
  | nil =>
    intro m l' m' h k
    cases l' with
    | cons _ _ => simp at h
    | nil => cases m with
      | nil => cases m' with
        | nil => rfl
        | cons _ _ => simp at k
      | cons _ _ => cases m' with
        | nil => simp at k
        | cons _ _ => rfl
  | cons a r ih =>
    intro m l' m' h k
    cases l' with
    | nil => simp at h
    | cons a' r' => cases m with
      | nil => cases m' with
        | nil => rfl
        | cons _ _ => simp at k
      | cons b s => cases m' with
        | nil => simp at k
        | cons b' s' =>
          simp only [List.map_cons, List.cons.injEq] at h k
          simp only [Cd.eqR, hB a b a' b' h.1 k.1, ih h.2 k.2]
theorem Im.eqB_er {x y x' y' : Im} (h : x.er = x'.er) (k : y.er = y'.er) : Im.eqB x y = Im.eqB x' y' := by
  obtain ⟨e1, e2⟩ := Im.er_parts h
  obtain ⟨f1, f2⟩ := Im.er_parts k
  unfold Im.eqB
  rw [e2, f2, Cd.eqR_er Cd.eqB_er e1 f1]

set_option maxRecDepth 100000 in
set_option maxHeartbeats 2000000 in
theorem equalInstrs_any (a b : Nt) (B : Nat) (w : World) (ha : Nt.E.In w B a) (hb : Nt.E.In w B b) (hB : B ≤ w.heap.size) :
    Calls Try.prog 43 #[Nt.val a, Nt.val b] w fun e w' => e = .returned (.bool (Nt.eqB a b)) ∧ Below w.heap.size w w' := by
  have K : Hid (Nt.eqB a b = ((a.o == b.o) && ((a.i == b.i) && D.eqB a.t b.t))) := rfl
  obtain ⟨W1, hW1⟩ : ∃ W1, W1 = (w.alloc (.cells #[.int .i64 a.o, .int .i64 a.i, .int .i64 a.t.k, .int .i64 a.t.n, .string a.t.t, .slice a.t.A a.t.l.length a.t.c] 53)).alloc (.cells #[.int .i64 b.o, .int .i64 b.i, .int .i64 b.t.k, .int .i64 b.t.n, .string b.t.t, .slice b.t.A b.t.l.length b.t.c] 53) := ⟨_, rfl⟩
  have b1 : Below w.heap.size w W1 := by rw [hW1]; exact ((Below.refl _ _).alloc (Nat.le_refl _) _).alloc (by simp) _
  have z1 : w.heap.size + 2 ≤ W1.heap.size := by rw [hW1]; simp
  have xa : Nt.Box W1 w.heap.size a := by rw [hW1]; exact (Nt.Box.new w a _).below ((Below.refl (w.heap.size + 1) _).alloc (by simp) _) (by omega)
  have xb : Nt.Box W1 (w.heap.size + 1) b := by rw [hW1]; have := Nt.Box.new (w.alloc (.cells #[.int .i64 a.o, .int .i64 a.i, .int .i64 a.t.k, .int .i64 a.t.n, .string a.t.t, .slice a.t.A a.t.l.length a.t.c] 53)) b 53; simpa using this
  unfold Nt.val
  have ho := (Nt.E_in (ha.below (b1.mono hB))).t
  have ho' := (Nt.E_in (hb.below (b1.mono hB))).t
  have hB1 : B ≤ W1.heap.size := by omega
  obtain ⟨XS, hXS⟩ : ∃ X, X = D.eqB a.t b.t := ⟨_, rfl⟩
  have HC : Hid (Calls Try.prog 60 #[.agg #[.int .i64 a.t.k, .int .i64 a.t.n, .string a.t.t, .slice a.t.A a.t.l.length a.t.c], .agg #[.int .i64 b.t.k, .int .i64 b.t.n, .string b.t.t, .slice b.t.A b.t.l.length b.t.c]] W1 fun e w' => e = .returned (.bool XS) ∧ Below W1.heap.size W1 w') := by
    rw [hXS]
    exact implEqual_any a.t.size a.t b.t B W1 (Nat.le_refl _) ho ho' hB1
  rw [← hXS] at K
  clear hXS ho ho'
  cases q0 : (a.o == b.o)
  · have HQ : Hid (Nt.eqB a b = false) := by show _ = _; rw [K.out, q0]; rfl
    go_enter Try.func43, Try.ntmps43
    go_upto_region 1 with fail
    rw [← hW1]
    clear hW1
    have XA := Lib.hid xa
    have XB := Lib.hid xb
    obtain ⟨a0, a1, a2, a3, a4, a5⟩ := xa
    obtain ⟨d0, d1, d2, d3, d4, d5⟩ := xb
    go_wp2_with fail
    go_ret
    exact ⟨ret_bool HQ.out.symm, b1⟩
  · skip
    cases q1 : (a.i == b.i)
    · have HQ : Hid (Nt.eqB a b = false) := by show _ = _; rw [K.out, q0, q1]; rfl
      go_enter Try.func43, Try.ntmps43
      go_upto_region 1 with fail
      rw [← hW1]
      clear hW1
      have XA := Lib.hid xa
      have XB := Lib.hid xb
      obtain ⟨a0, a1, a2, a3, a4, a5⟩ := xa
      obtain ⟨d0, d1, d2, d3, d4, d5⟩ := xb
      go_wp2_with fail
      go_ret
      exact ⟨ret_bool HQ.out.symm, b1⟩
    · skip
      cases XS
      · have HQ : Hid (Nt.eqB a b = false) := by show _ = _; rw [K.out, q0, q1]; rfl
        go_enter Try.func43, Try.ntmps43
        go_upto_region 1 with fail
        rw [← hW1]
        clear hW1
        have XA := Lib.hid xa
        have XB := Lib.hid xb
        obtain ⟨a0, a1, a2, a3, a4, a5⟩ := xa
        obtain ⟨d0, d1, d2, d3, d4, d5⟩ := xb
        go_wp2_with fail
        clear a0 a1 a2 a3 a4 a5 d0 d1 d2 d3 d4 d5
        (with_reducible refine (HC.out).mono ?_)
        rintro e w2 ⟨rfl, hb2⟩
        have b1 := b1.trans (hb2.mono (by omega))
        go_wp2_with fail
        go_ret
        exact ⟨ret_bool HQ.out.symm, b1⟩
      · skip
        have HQ : Hid (Nt.eqB a b = true) := by show _ = _; rw [K.out, q0, q1]; rfl
        go_enter Try.func43, Try.ntmps43
        go_upto_region 1 with fail
        rw [← hW1]
        clear hW1
        have XA := Lib.hid xa
        have XB := Lib.hid xb
        obtain ⟨a0, a1, a2, a3, a4, a5⟩ := xa
        obtain ⟨d0, d1, d2, d3, d4, d5⟩ := xb
        go_wp2_with fail
        clear a0 a1 a2 a3 a4 a5 d0 d1 d2 d3 d4 d5
        (with_reducible refine (HC.out).mono ?_)
        rintro e w2 ⟨rfl, hb2⟩
        have b1 := b1.trans (hb2.mono (by omega))
        go_wp2_with fail
        go_ret
        exact ⟨ret_bool HQ.out.symm, b1⟩

set_option maxRecDepth 100000 in
set_option maxHeartbeats 1000000 in
theorem equalFuncNt_any (A : Option Addr) (c : Nat) (l : List Nt) (A' : Option Addr) (c' : Nat) (l' : List Nt) (B : Nat) (w : World) (hin : Nt.E.LIn w B A c l) (hin' : Nt.E.LIn w B A' c' l') (hB : B ≤ w.heap.size) :
    Calls Try.prog 42 #[.slice A l.length c, .slice A' l'.length c', .func (.func 43) #[] #[]] w fun x w' => x = .returned (.bool (Nt.eqR l l')) ∧ Below w.heap.size w w' := by
  have hcap := hin.cap
  have hcap' := hin'.cap
  by_cases hlen : l.length = l'.length
  · have hn1 : ((l.length : Int) != (l'.length : Int)) = false := by simp [hlen]
    have hlen1 : l'.length ≤ l.length := by omega
    have hlen2 : l.length ≤ l'.length := by omega
    clear hlen
    go_enter Try.func42, Try.ntmps42
    go_wp2_with fail
    go_loopw [17] (fun i wr => ∃ j : Nat, j ≤ l.length ∧ i = .int .i64 j ∧ Hid (Nt.eqR (l.drop j) (l'.drop j) = Nt.eqR l l') ∧ Below w.heap.size w wr) (fun i _ => l.length - (intOf i).toNat)
    case atStart => exact ⟨0, Nat.zero_le _, rfl, by simp [Hid], Below.refl _ _⟩
    case round =>
      obtain ⟨j, hj, rfl, HE, hb⟩ := hrel
      have hs2 := hb.size
      by_cases hlt : j < l.length
      · have hlt' : j < l'.length := by omega
        obtain ⟨b, o, rfl, hblk, c0, c1, c2, c3, c4, c5, hix⟩ := Nt.at_ (hin.below (hb.mono hB)) (i := j) (x := l[j]) (List.getElem?_eq_getElem hlt)
        obtain ⟨b', o', rfl, hblk', c0', c1', c2', c3', c4', c5', hix'⟩ := Nt.at_ (hin'.below (hb.mono hB)) (i := j) (x := l'[j]) (List.getElem?_eq_getElem hlt')
        have gg1 : (0 : Int) ≤ (j : Int) := by omega
        have gg2 : (j : Int) < (l.length : Int) := by omega
        have gg3 : (j : Int) < (l'.length : Int) := by omega
        have HS := Lib.hid (Nt.eqR_drop hlt hlt')
        have al : ∀ (p : Addr), p.block < wr.heap.size → (wr.alloc (.cells #[.int .i64 l[j].o, .int .i64 l[j].i, .int .i64 l[j].t.k, .int .i64 l[j].t.n, .string l[j].t.t, .slice l[j].t.A l[j].t.l.length l[j].t.c] 53)).cell? p = wr.cell? p := fun p hp => World.cell?_alloc_lt wr _ p hp
        have v0 := (al ⟨b', o' + j * 6, none⟩ (show b' < wr.heap.size by omega)).trans c0'
        have v1 := (al ⟨b', o' + j * 6 + 1, none⟩ (show b' < wr.heap.size by omega)).trans c1'
        have v2 := (al ⟨b', o' + j * 6 + 2, none⟩ (show b' < wr.heap.size by omega)).trans c2'
        have v3 := (al ⟨b', o' + j * 6 + 3, none⟩ (show b' < wr.heap.size by omega)).trans c3'
        have v4 := (al ⟨b', o' + j * 6 + 4, none⟩ (show b' < wr.heap.size by omega)).trans c4'
        have v5 := (al ⟨b', o' + j * 6 + 5, none⟩ (show b' < wr.heap.size by omega)).trans c5'
        clear al
        have bn : Below wr.heap.size wr ((wr.alloc (.cells #[.int .i64 l[j].o, .int .i64 l[j].i, .int .i64 l[j].t.k, .int .i64 l[j].t.n, .string l[j].t.t, .slice l[j].t.A l[j].t.l.length l[j].t.c] 53)).alloc (.cells #[.int .i64 l'[j].o, .int .i64 l'[j].i, .int .i64 l'[j].t.k, .int .i64 l'[j].t.n, .string l'[j].t.t, .slice l'[j].t.A l'[j].t.l.length l'[j].t.c] 53)) := ((Below.refl _ _).alloc (Nat.le_refl _) _).alloc (by simp) _
        go_wp2_with fail
        refine (equalInstrs_any l[j] l'[j] B _ (hix.below (bn.mono (by omega))) (hix'.below (bn.mono (by omega))) (by simp; omega)).mono ?_
        rintro e w1 ⟨rfl, hb1⟩
        have hb2 : Below w.heap.size w w1 := hb.trans ((bn.trans (hb1.mono (by simp; omega))).mono hs2)
        clear bn hb1
        cases hq : Nt.eqB l[j] l'[j]
        · have HQ : Hid (Nt.eqR l l' = false) := by show _ = _; rw [← HE.out, HS.out, hq]; rfl
          clear hq
          go_wp2_with fail
          go_ret
          exact ⟨ret_bool HQ.out.symm, hb2⟩
        · have HQ : Hid (Nt.eqR (l.drop (j + 1)) (l'.drop (j + 1)) = Nt.eqR l l') := by show _ = _; rw [← HE.out, HS.out, hq]; rfl
          clear hq
          go_wp2_with fail
          go_roundw
          case rel => exact ⟨j + 1, by omega, by go_num, HQ, hb2⟩
          case measure => simp [intOf]; omega
      · have hj' : j = l.length := by omega
        have HQ : Hid (Nt.eqR l l' = true) := by show _ = _; rw [← HE.out, List.drop_eq_nil_of_le (by omega), List.drop_eq_nil_of_le (by omega)]; rfl
        go_wp2_with fail
        go_ret
        exact ⟨ret_bool HQ.out.symm, hb⟩
  · have hn1 : ((l.length : Int) != (l'.length : Int)) = true := by simpa using (by omega : ¬ (l.length : Int) = (l'.length : Int))
    have Hn := Lib.hid (Nt.eqR_len (l := l) (l' := l') hlen)
    clear hlen
    go_enter Try.func42, Try.ntmps42
    go_wp2_with fail
    go_ret
    exact ⟨ret_bool Hn.out.symm, Below.refl _ _⟩

set_option maxRecDepth 100000 in
set_option maxHeartbeats 2000000 in
theorem equalCodes_any (a b : Cd) (B : Nat) (w : World) (ha : Cd.E.In w B a) (hb : Cd.E.In w B b) (hB : B ≤ w.heap.size) :
    Calls Try.prog 28 #[Cd.val a, Cd.val b] w fun e w' => e = .returned (.bool (Cd.eqB a b)) ∧ Below w.heap.size w w' := by
  have K : Hid (Cd.eqB a b = ((a.p == b.p) && ((a.s == b.s) && ((a.c == b.c) && Nt.eqR a.l b.l)))) := rfl
  obtain ⟨W1, hW1⟩ : ∃ W1, W1 = (w.alloc (.cells #[.int .i64 a.p, .int .i64 a.s, .int .i64 a.c, .slice a.lA a.l.length a.lC] 48)).alloc (.cells #[.int .i64 b.p, .int .i64 b.s, .int .i64 b.c, .slice b.lA b.l.length b.lC] 48) := ⟨_, rfl⟩
  have b1 : Below w.heap.size w W1 := by rw [hW1]; exact ((Below.refl _ _).alloc (Nat.le_refl _) _).alloc (by simp) _
  have z1 : w.heap.size + 2 ≤ W1.heap.size := by rw [hW1]; simp
  have xa : Cd.Box W1 w.heap.size a := by rw [hW1]; exact (Cd.Box.new w a _).below ((Below.refl (w.heap.size + 1) _).alloc (by simp) _) (by omega)
  have xb : Cd.Box W1 (w.heap.size + 1) b := by rw [hW1]; have := Cd.Box.new (w.alloc (.cells #[.int .i64 a.p, .int .i64 a.s, .int .i64 a.c, .slice a.lA a.l.length a.lC] 48)) b 48; simpa using this
  unfold Cd.val
  have ho := (Cd.E_in (ha.below (b1.mono hB))).l
  have ho' := (Cd.E_in (hb.below (b1.mono hB))).l
  have hB1 : B ≤ W1.heap.size := by omega
  obtain ⟨XS, hXS⟩ : ∃ X, X = Nt.eqR a.l b.l := ⟨_, rfl⟩
  have HC : Hid (Calls Try.prog 42 #[.slice a.lA a.l.length a.lC, .slice b.lA b.l.length b.lC, .func (.func 43) #[] #[]] W1 fun e w' => e = .returned (.bool XS) ∧ Below W1.heap.size W1 w') := by
    rw [hXS]
    exact equalFuncNt_any a.lA a.lC a.l b.lA b.lC b.l B W1 ho ho' hB1
  rw [← hXS] at K
  clear hXS ho ho'
  cases q0 : (a.p == b.p)
  · have HQ : Hid (Cd.eqB a b = false) := by show _ = _; rw [K.out, q0]; rfl
    go_enter Try.func28, Try.ntmps28
    go_upto_region 1 with fail
    rw [← hW1]
    clear hW1
    have XA := Lib.hid xa
    have XB := Lib.hid xb
    obtain ⟨a0, a1, a2, a3⟩ := xa
    obtain ⟨d0, d1, d2, d3⟩ := xb
    go_wp2_with fail
    go_ret
    exact ⟨ret_bool HQ.out.symm, b1⟩
  · skip
    cases q1 : (a.s == b.s)
    · have HQ : Hid (Cd.eqB a b = false) := by show _ = _; rw [K.out, q0, q1]; rfl
      go_enter Try.func28, Try.ntmps28
      go_upto_region 1 with fail
      rw [← hW1]
      clear hW1
      have XA := Lib.hid xa
      have XB := Lib.hid xb
      obtain ⟨a0, a1, a2, a3⟩ := xa
      obtain ⟨d0, d1, d2, d3⟩ := xb
      go_wp2_with fail
      go_ret
      exact ⟨ret_bool HQ.out.symm, b1⟩
    · skip
      cases q2 : (a.c == b.c)
      · have HQ : Hid (Cd.eqB a b = false) := by show _ = _; rw [K.out, q0, q1, q2]; rfl
        go_enter Try.func28, Try.ntmps28
        go_upto_region 1 with fail
        rw [← hW1]
        clear hW1
        have XA := Lib.hid xa
        have XB := Lib.hid xb
        obtain ⟨a0, a1, a2, a3⟩ := xa
        obtain ⟨d0, d1, d2, d3⟩ := xb
        go_wp2_with fail
        go_ret
        exact ⟨ret_bool HQ.out.symm, b1⟩
      · skip
        cases XS
        · have HQ : Hid (Cd.eqB a b = false) := by show _ = _; rw [K.out, q0, q1, q2]; rfl
          go_enter Try.func28, Try.ntmps28
          go_upto_region 1 with fail
          rw [← hW1]
          clear hW1
          have XA := Lib.hid xa
          have XB := Lib.hid xb
          obtain ⟨a0, a1, a2, a3⟩ := xa
          obtain ⟨d0, d1, d2, d3⟩ := xb
          go_wp2_with fail
          clear a0 a1 a2 a3 d0 d1 d2 d3
          (with_reducible refine (HC.out).mono ?_)
          rintro e w2 ⟨rfl, hb2⟩
          have b1 := b1.trans (hb2.mono (by omega))
          go_wp2_with fail
          go_ret
          exact ⟨ret_bool HQ.out.symm, b1⟩
        · skip
          have HQ : Hid (Cd.eqB a b = true) := by show _ = _; rw [K.out, q0, q1, q2]; rfl
          go_enter Try.func28, Try.ntmps28
          go_upto_region 1 with fail
          rw [← hW1]
          clear hW1
          have XA := Lib.hid xa
          have XB := Lib.hid xb
          obtain ⟨a0, a1, a2, a3⟩ := xa
          obtain ⟨d0, d1, d2, d3⟩ := xb
          go_wp2_with fail
          clear a0 a1 a2 a3 d0 d1 d2 d3
          (with_reducible refine (HC.out).mono ?_)
          rintro e w2 ⟨rfl, hb2⟩
          have b1 := b1.trans (hb2.mono (by omega))
          go_wp2_with fail
          go_ret
          exact ⟨ret_bool HQ.out.symm, b1⟩

set_option maxRecDepth 100000 in
set_option maxHeartbeats 1000000 in
theorem equalFuncCd_any (A : Option Addr) (c : Nat) (l : List Cd) (A' : Option Addr) (c' : Nat) (l' : List Cd) (B : Nat) (w : World) (hin : Cd.E.LIn w B A c l) (hin' : Cd.E.LIn w B A' c' l') (hB : B ≤ w.heap.size) :
    Calls Try.prog 27 #[.slice A l.length c, .slice A' l'.length c', .func (.func 28) #[] #[]] w fun x w' => x = .returned (.bool (Cd.eqR l l')) ∧ Below w.heap.size w w' := by
  have hcap := hin.cap
  have hcap' := hin'.cap
  by_cases hlen : l.length = l'.length
  · have hn1 : ((l.length : Int) != (l'.length : Int)) = false := by simp [hlen]
    have hlen1 : l'.length ≤ l.length := by omega
    have hlen2 : l.length ≤ l'.length := by omega
    clear hlen
    go_enter Try.func27, Try.ntmps27
    go_wp2_with fail
    go_loopw [17] (fun i wr => ∃ j : Nat, j ≤ l.length ∧ i = .int .i64 j ∧ Hid (Cd.eqR (l.drop j) (l'.drop j) = Cd.eqR l l') ∧ Below w.heap.size w wr) (fun i _ => l.length - (intOf i).toNat)
    case atStart => exact ⟨0, Nat.zero_le _, rfl, by simp [Hid], Below.refl _ _⟩
    case round =>
      obtain ⟨j, hj, rfl, HE, hb⟩ := hrel
      have hs2 := hb.size
      by_cases hlt : j < l.length
      · have hlt' : j < l'.length := by omega
        obtain ⟨b, o, rfl, hblk, c0, c1, c2, c3, hix⟩ := Cd.at_ (hin.below (hb.mono hB)) (i := j) (x := l[j]) (List.getElem?_eq_getElem hlt)
        obtain ⟨b', o', rfl, hblk', c0', c1', c2', c3', hix'⟩ := Cd.at_ (hin'.below (hb.mono hB)) (i := j) (x := l'[j]) (List.getElem?_eq_getElem hlt')
        have gg1 : (0 : Int) ≤ (j : Int) := by omega
        have gg2 : (j : Int) < (l.length : Int) := by omega
        have gg3 : (j : Int) < (l'.length : Int) := by omega
        have HS := Lib.hid (Cd.eqR_drop hlt hlt')
        have al : ∀ (p : Addr), p.block < wr.heap.size → (wr.alloc (.cells #[.int .i64 l[j].p, .int .i64 l[j].s, .int .i64 l[j].c, .slice l[j].lA l[j].l.length l[j].lC] 48)).cell? p = wr.cell? p := fun p hp => World.cell?_alloc_lt wr _ p hp
        have v0 := (al ⟨b', o' + j * 4, none⟩ (show b' < wr.heap.size by omega)).trans c0'
        have v1 := (al ⟨b', o' + j * 4 + 1, none⟩ (show b' < wr.heap.size by omega)).trans c1'
        have v2 := (al ⟨b', o' + j * 4 + 2, none⟩ (show b' < wr.heap.size by omega)).trans c2'
        have v3 := (al ⟨b', o' + j * 4 + 3, none⟩ (show b' < wr.heap.size by omega)).trans c3'
        clear al
        have bn : Below wr.heap.size wr ((wr.alloc (.cells #[.int .i64 l[j].p, .int .i64 l[j].s, .int .i64 l[j].c, .slice l[j].lA l[j].l.length l[j].lC] 48)).alloc (.cells #[.int .i64 l'[j].p, .int .i64 l'[j].s, .int .i64 l'[j].c, .slice l'[j].lA l'[j].l.length l'[j].lC] 48)) := ((Below.refl _ _).alloc (Nat.le_refl _) _).alloc (by simp) _
        go_wp2_with fail
        refine (equalCodes_any l[j] l'[j] B _ (hix.below (bn.mono (by omega))) (hix'.below (bn.mono (by omega))) (by simp; omega)).mono ?_
        rintro e w1 ⟨rfl, hb1⟩
        have hb2 : Below w.heap.size w w1 := hb.trans ((bn.trans (hb1.mono (by simp; omega))).mono hs2)
        clear bn hb1
        cases hq : Cd.eqB l[j] l'[j]
        · have HQ : Hid (Cd.eqR l l' = false) := by show _ = _; rw [← HE.out, HS.out, hq]; rfl
          clear hq
          go_wp2_with fail
          go_ret
          exact ⟨ret_bool HQ.out.symm, hb2⟩
        · have HQ : Hid (Cd.eqR (l.drop (j + 1)) (l'.drop (j + 1)) = Cd.eqR l l') := by show _ = _; rw [← HE.out, HS.out, hq]; rfl
          clear hq
          go_wp2_with fail
          go_roundw
          case rel => exact ⟨j + 1, by omega, by go_num, HQ, hb2⟩
          case measure => simp [intOf]; omega
      · have hj' : j = l.length := by omega
        have HQ : Hid (Cd.eqR l l' = true) := by show _ = _; rw [← HE.out, List.drop_eq_nil_of_le (by omega), List.drop_eq_nil_of_le (by omega)]; rfl
        go_wp2_with fail
        go_ret
        exact ⟨ret_bool HQ.out.symm, hb⟩
  · have hn1 : ((l.length : Int) != (l'.length : Int)) = true := by simpa using (by omega : ¬ (l.length : Int) = (l'.length : Int))
    have Hn := Lib.hid (Cd.eqR_len (l := l) (l' := l') hlen)
    clear hlen
    go_enter Try.func27, Try.ntmps27
    go_wp2_with fail
    go_ret
    exact ⟨ret_bool Hn.out.symm, Below.refl _ _⟩

set_option maxRecDepth 100000 in
set_option maxHeartbeats 2000000 in
theorem implEqIm_any (a b : Im) (B : Nat) (w : World) (ha : Im.E.In w B a) (hb : Im.E.In w B b) (hB : B ≤ w.heap.size) :
    Calls Try.prog 12 #[Im.val a, Im.val b] w fun e w' => e = .returned (.bool (Im.eqB a b)) ∧ Below w.heap.size w w' := by
  have K : Hid (Im.eqB a b = ((a.m == b.m) && Cd.eqR a.l b.l)) := rfl
  obtain ⟨W1, hW1⟩ : ∃ W1, W1 = (w.alloc (.cells #[.slice a.lA a.l.length a.lC, .int .i64 a.m] 31)).alloc (.cells #[.slice b.lA b.l.length b.lC, .int .i64 b.m] 31) := ⟨_, rfl⟩
  have b1 : Below w.heap.size w W1 := by rw [hW1]; exact ((Below.refl _ _).alloc (Nat.le_refl _) _).alloc (by simp) _
  have z1 : w.heap.size + 2 ≤ W1.heap.size := by rw [hW1]; simp
  have xa : Im.Box W1 w.heap.size a := by rw [hW1]; exact (Im.Box.new w a _).below ((Below.refl (w.heap.size + 1) _).alloc (by simp) _) (by omega)
  have xb : Im.Box W1 (w.heap.size + 1) b := by rw [hW1]; have := Im.Box.new (w.alloc (.cells #[.slice a.lA a.l.length a.lC, .int .i64 a.m] 31)) b 31; simpa using this
  unfold Im.val
  have ho := (Im.E_in (ha.below (b1.mono hB))).l
  have ho' := (Im.E_in (hb.below (b1.mono hB))).l
  have hB1 : B ≤ W1.heap.size := by omega
  obtain ⟨XS, hXS⟩ : ∃ X, X = Cd.eqR a.l b.l := ⟨_, rfl⟩
  have HC : Hid (Calls Try.prog 27 #[.slice a.lA a.l.length a.lC, .slice b.lA b.l.length b.lC, .func (.func 28) #[] #[]] W1 fun e w' => e = .returned (.bool XS) ∧ Below W1.heap.size W1 w') := by
    rw [hXS]
    exact equalFuncCd_any a.lA a.lC a.l b.lA b.lC b.l B W1 ho ho' hB1
  rw [← hXS] at K
  clear hXS ho ho'
  cases q0 : (a.m == b.m)
  · have HQ : Hid (Im.eqB a b = false) := by show _ = _; rw [K.out, q0]; rfl
    go_enter Try.func12, Try.ntmps12
    go_upto_region 1 with fail
    rw [← hW1]
    clear hW1
    have XA := Lib.hid xa
    have XB := Lib.hid xb
    obtain ⟨a0, a1⟩ := xa
    obtain ⟨d0, d1⟩ := xb
    go_wp2_with fail
    go_ret
    exact ⟨ret_bool HQ.out.symm, b1⟩
  · skip
    cases XS
    · have HQ : Hid (Im.eqB a b = false) := by show _ = _; rw [K.out, q0]; rfl
      go_enter Try.func12, Try.ntmps12
      go_upto_region 1 with fail
      rw [← hW1]
      clear hW1
      have XA := Lib.hid xa
      have XB := Lib.hid xb
      obtain ⟨a0, a1⟩ := xa
      obtain ⟨d0, d1⟩ := xb
      go_wp2_with fail
      clear a0 a1 d0 d1
      (with_reducible refine (HC.out).mono ?_)
      rintro e w2 ⟨rfl, hb2⟩
      have b1 := b1.trans (hb2.mono (by omega))
      go_wp2_with fail
      go_ret
      exact ⟨ret_bool HQ.out.symm, b1⟩
    · skip
      have HQ : Hid (Im.eqB a b = true) := by show _ = _; rw [K.out, q0]; rfl
      go_enter Try.func12, Try.ntmps12
      go_upto_region 1 with fail
      rw [← hW1]
      clear hW1
      have XA := Lib.hid xa
      have XB := Lib.hid xb
      obtain ⟨a0, a1⟩ := xa
      obtain ⟨d0, d1⟩ := xb
      go_wp2_with fail
      clear a0 a1 d0 d1
      (with_reducible refine (HC.out).mono ?_)
      rintro e w2 ⟨rfl, hb2⟩
      have b1 := b1.trans (hb2.mono (by omega))
      go_wp2_with fail
      go_ret
      exact ⟨ret_bool HQ.out.symm, b1⟩
end Go.Proofs.Ytpigpncbjckbcaa
