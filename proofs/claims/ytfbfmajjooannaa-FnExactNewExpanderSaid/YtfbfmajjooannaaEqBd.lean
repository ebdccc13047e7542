/-
  EqualBindings, the model's and the program's.
-/
import Derived.Test.YtfbfmajjooannaaBindL
import Derived.Test.YtfbfmajjooannaaSEqi
import Derived.Deep.RegionLaw
import Derived.Deep.QuietTactic
import Derived.BigQuiet
import Derived.Deep.DeepCutAuto
namespace Go.Proofs.Ytfbfmajjooannaa
open Go.RowKit

theorem drewN_one (w : World) (q : Nat) : (w.drewN q).drew = w.drewN (q + 1) := by rw [← World.drewN_drewN]; rfl
theorem below_drewN {B : Nat} {w w1 : World} (h : Below B w w1) (n : Nat) : Below B w (w1.drewN n) := ⟨h.os, h.tape, h.output, h.size, h.block⟩
set_option maxHeartbeats 400000 in
theorem sameIntsQ_any (A : Option Addr) (c : Nat) (l : List Int) (A' : Option Addr) (c' : Nat) (l' : List Int) (B : Nat) (w : World) (hin : IIn w B A c l) (hin' : IIn w B A' c' l') (hB : B ≤ w.heap.size) :
    Calls Try.prog 94 #[.slice A l.length c, .slice A' l'.length c'] w fun e w' => e = .returned (.bool (l == l')) ∧ ∃ m, w' = w.drewN m := by
  have hcap := hin.cap
  have hcap' := hin'.cap
  by_cases hlen : l.length = l'.length
  · have hn1 : ((l.length : Int) != (l'.length : Int)) = false := by simp [hlen]
    have Hlen := Lib.hid hlen
    have hlen1 : l'.length ≤ l.length := by omega
    have hlen2 : l.length ≤ l'.length := by omega
    clear hlen
    go_enter Try.func94, Try.ntmps94
    go_wp2_with fail
    go_loopw [13] (fun i wr => ∃ j : Nat, j ≤ l.length ∧ i = .int .i64 j ∧ Hid (l.take j = l'.take j) ∧ ∃ q, wr = w.drewN q) (fun i _ => l.length - (intOf i).toNat)
    case atStart => exact ⟨0, Nat.zero_le _, rfl, by simp [Hid], 0, rfl⟩
    case round =>
      obtain ⟨j, hj, rfl, HE, q, rfl⟩ := hrel
      by_cases hlt : j < l.length
      · have hlt' : j < l'.length := by omega
        obtain ⟨b, o, rfl, hblk, c0⟩ := hin.at_ hlt
        obtain ⟨b', o', rfl, hblk', c0'⟩ := hin'.at_ hlt'
        have g2 : (j : Int) < (l.length : Int) := by omega
        have g3 : (j : Int) < (l'.length : Int) := by omega
        by_cases hq : l[j] = l'[j]
        · have hq1 : (l[j] != l'[j]) = false := by simp [hq]
          have HT : Hid (l.take (j + 1) = l'.take (j + 1)) := by
            show _ = _
            rw [List.take_succ_eq_append_getElem hlt, List.take_succ_eq_append_getElem hlt', HE.out, hq]
          clear hq
          go_wp2_with fail
          go_region
          all_goals go_wp2_with fail
          all_goals refine ⟨⟨j + 1, by omega, by go_num, HT, q + 1, drewN_one _ _⟩, by simp [intOf]; omega⟩
        · have hq1 : (l[j] != l'[j]) = true := by simpa using hq
          have HF : Hid ((l == l') = false) := by
            show _ = _
            rw [beq_eq_false_iff_ne]
            rintro rfl
            exact hq rfl
          clear hq
          go_wp2_with fail
          go_region
          all_goals go_wp2_with fail
          all_goals go_ret
          all_goals exact ⟨ret_bool HF.out.symm, q + 1, drewN_one _ _⟩
      · have hj' : j = l.length := by omega
        subst hj'
        have HF : Hid ((l == l') = true) := by
          show _ = _
          have := HE.out
          rw [List.take_length, List.take_of_length_le (by omega)] at this
          simp [this]
        go_wp2_with fail
        go_ret
        exact ⟨ret_bool HF.out.symm, q, rfl⟩
  · have hn1 : ((l.length : Int) != (l'.length : Int)) = true := by simpa using (by omega : ¬ (l.length : Int) = (l'.length : Int))
    have HF : Hid ((l == l') = false) := by
      show _ = _
      rw [beq_eq_false_iff_ne]
      rintro rfl
      exact hlen rfl
    go_enter Try.func94, Try.ntmps94
    go_wp2_with fail
    go_ret
    exact ⟨ret_bool HF.out.symm, 0, rfl⟩


namespace Bd
def eqB (x y : Bd) : Bool := x.t.toList == y.t.toList && (x.s == y.s && (x.k == y.k && x.n == y.n))
def eqBL : List Bd → List Bd → Bool | [], [] => true | [], _ :: _ => false | _ :: _, [] => false | a :: r, b :: s => eqB a b && eqBL r s
theorem eqB_er {a b a2 b2 : Bd} (h1 : er a = er a2) (h2 : er b = er b2) : eqB a b = eqB a2 b2 := by
  obtain ⟨e1, e2, e3, e4⟩ := fields_of_er h1
  obtain ⟨f1, f2, f3, f4⟩ := fields_of_er h2
  unfold eqB; rw [e1, e2, e3, e4, f1, f2, f3, f4]
theorem eqBL_er : ∀ {a b a2 b2 : List Bd}, erL a = erL a2 → erL b = erL b2 → eqBL a b = eqBL a2 b2
  | [], b, [], b2, _, h2 => by cases b <;> cases b2 <;> simp [erL] at h2 <;> rfl
  | [], _, _ :: _, _, h1, _ => by simp [erL] at h1
  | _ :: _, _, [], _, h1, _ => by simp [erL] at h1
  | x :: r, [], x2 :: r2, [], _, _ => rfl
  | x :: r, [], x2 :: r2, _ :: _, _, h2 => by simp [erL] at h2
  | x :: r, _ :: _, x2 :: r2, [], _, h2 => by simp [erL] at h2
  | x :: r, y :: s, x2 :: r2, y2 :: s2, h1, h2 => by
    have a1 : er x = er x2 ∧ erL r = erL r2 := by simpa [erL] using h1
    have a2 : er y = er y2 ∧ erL s = erL s2 := by simpa [erL] using h2
    simp only [eqBL, eqB_er a1.1 a2.1, eqBL_er a1.2 a2.2]
theorem eqBL_length : ∀ (l l' : List Bd), l.length ≠ l'.length → eqBL l l' = false
  | [], [], h => absurd rfl h
  | [], _ :: _, _ => rfl
  | _ :: _, [], _ => rfl
  | a :: r, b :: s, h => by simp only [eqBL, eqBL_length r s (by simpa using h), Bool.and_false]
theorem eqBL_append : ∀ (a b c d : List Bd), a.length = c.length → eqBL (a ++ b) (c ++ d) = (eqBL a c && eqBL b d)
  | [], b, [], d, _ => by simp [eqBL]
  | [], _, _ :: _, _, h => by simp at h
  | _ :: _, _, [], _, h => by simp at h
  | x :: r, b, y :: s, d, h => by simp only [List.cons_append, eqBL, eqBL_append r b s d (by simpa using h), Bool.and_assoc]
theorem eqBL_step {l l' : List Bd} {j : Nat} (h : j < l.length) (h' : j < l'.length) : eqBL (l.take (j + 1)) (l'.take (j + 1)) = (eqBL (l.take j) (l'.take j) && eqB l[j] l'[j]) := by
  rw [List.take_succ_eq_append_getElem h, List.take_succ_eq_append_getElem h', eqBL_append _ _ _ _ (by simp; omega)]
  simp [eqBL]
theorem eqBL_no {l l' : List Bd} {j : Nat} (h : j < l.length) (h' : j < l'.length) (he : eqB l[j] l'[j] = false) : eqBL l l' = false := by
  have e1 := List.take_append_drop (j + 1) l
  have e2 := List.take_append_drop (j + 1) l'
  rw [← e1, ← e2, eqBL_append _ _ _ _ (by simp; omega), eqBL_step h h', he]
  simp
end Bd

set_option maxRecDepth 100000 in
set_option maxHeartbeats 1000000 in
theorem implEqB_any (x y : Bd) (B : Nat) (w : World) (hx : x.In w B) (hy : y.In w B) (hB : B ≤ w.heap.size) :
    Calls Try.prog 99 #[x.val, y.val] w fun e w' => e = .returned (.bool (Bd.eqB x y)) ∧ Below w.heap.size w w' := by
  have K : Hid (Bd.eqB x y = (x.t.toList == y.t.toList && (x.s == y.s && (x.k == y.k && x.n == y.n)))) := rfl
  obtain ⟨W1, hW1⟩ : ∃ W1, W1 = w.alloc (.cells #[.string x.t, .slice x.sa x.s.length x.sc, .int .i64 x.k, .int .i64 x.n] 123) := ⟨_, rfl⟩
  obtain ⟨W2, hW2⟩ : ∃ W2, W2 = W1.alloc (.cells #[.string y.t, .slice y.sa y.s.length y.sc, .int .i64 y.k, .int .i64 y.n] 123) := ⟨_, rfl⟩
  have z1 : W1.heap.size = w.heap.size + 1 := by rw [hW1]; simp
  have B1 : Below w.heap.size w W1 := by rw [hW1]; exact (Below.refl _ _).alloc (Nat.le_refl _) _
  have z2 : W2.heap.size = w.heap.size + 1 + 1 := by rw [hW2]; simp [z1]
  have B2 : Below W1.heap.size W1 W2 := by rw [hW2]; exact (Below.refl _ _).alloc (Nat.le_refl _) _
  have x0 : Bd.Box W1 w.heap.size x := by rw [hW1]; exact Bd.Box.new w x _
  have x0 := x0.below B2 (by omega)
  have y0 : Bd.Box W2 (w.heap.size + 1) y := by rw [hW2, ← z1]; exact Bd.Box.new W1 y _
  have bb := B1.trans (B2.mono (by omega))
  have x0q := x0
  have y0q := y0
  obtain ⟨a0, a1, a2, a3⟩ := x0q
  obtain ⟨c0, c1, c2, c3⟩ := y0q
  unfold Bd.val
  cases ht : (x.t.toList == y.t.toList)
  · have HT := Lib.hid ht
    go_enter Try.func99, Try.ntmps99
    go_wp2_with fail
    rw [← hW1, ← hW2]
    go_ret
    exact ⟨ret_bool (by rw [K.out, HT.out]; rfl), bb⟩
  · have HT := Lib.hid ht
    go_enter Try.func99, Try.ntmps99
    go_wp2_with fail
    rw [← hW1, ← hW2]
    clear hW1 hW2 B1 B2
    refine (implSameInts_any _ _ _ _ _ _ B _ (hx.2.below (bb.mono hB)) (hy.2.below (bb.mono hB))).mono ?_
    rintro e w1 ⟨rfl, hb1⟩
    have zz := hb1.size
    have bb1 := bb.trans (hb1.mono (by omega))
    clear a0 a1 a2 a3 c0 c1 c2 c3
    obtain ⟨a0, a1, a2, a3⟩ := x0.below hb1 (by omega)
    obtain ⟨c0, c1, c2, c3⟩ := y0.below hb1 (by omega)
    clear x0 y0 hb1 bb
    cases hs : (x.s == y.s)
    · have HS := Lib.hid hs
      go_wp2_with fail
      go_ret
      exact ⟨ret_bool (by rw [K.out, HT.out, HS.out]; rfl), bb1⟩
    · have HS := Lib.hid hs
      cases hk : (x.k == y.k)
      · have HK := Lib.hid hk
        go_wp2_with fail
        go_ret
        exact ⟨ret_bool (by rw [K.out, HT.out, HS.out, HK.out]; rfl), bb1⟩
      · have HK := Lib.hid hk
        go_wp2_with fail
        go_ret
        exact ⟨ret_bool (by rw [K.out, HT.out, HS.out, HK.out]; rfl), bb1⟩

set_option maxRecDepth 100000 in
set_option maxHeartbeats 1000000 in
theorem equalFuncB_any (A : Option Addr) (c : Nat) (l : List Bd) (A' : Option Addr) (c' : Nat) (l' : List Bd) (B : Nat) (w : World) (hin : Bd.E.LIn w B A c l) (hin' : Bd.E.LIn w B A' c' l') (hB : B ≤ w.heap.size) :
    Calls Try.prog 98 #[.slice A l.length c, .slice A' l'.length c', .func (.func 99) #[] #[]] w fun x w' => x = .returned (.bool (Bd.eqBL l l')) ∧ Below w.heap.size w w' := by
  have hcap := hin.cap
  have hcap' := hin'.cap
  by_cases hlen : l.length = l'.length
  · have hn1 : ((l.length : Int) != (l'.length : Int)) = false := by simp [hlen]
    have hlen1 : l'.length ≤ l.length := by omega
    have hlen2 : l.length ≤ l'.length := by omega
    clear hlen
    go_enter Try.func98, Try.ntmps98
    go_wp2_with fail
    go_loopw [17] (fun i wr => ∃ j : Nat, j ≤ l.length ∧ i = .int .i64 j ∧ Hid (Bd.eqBL (l.take j) (l'.take j) = true) ∧ Below w.heap.size w wr) (fun i _ => l.length - (intOf i).toNat)
    case atStart => exact ⟨0, Nat.zero_le _, rfl, by simp [Hid, Bd.eqBL], Below.refl _ _⟩
    case round =>
      obtain ⟨j, hj, rfl, HE, hb⟩ := hrel
      have hs2 := hb.size
      by_cases hlt : j < l.length
      · have hlt' : j < l'.length := by omega
        obtain ⟨b, o, rfl, hblk, c0, c1, c2, c3, hix⟩ := Bd.at_ (hin.below (hb.mono hB)) (i := j) (x := l[j]) (List.getElem?_eq_getElem hlt)
        obtain ⟨b', o', rfl, hblk', c0', c1', c2', c3', hix'⟩ := Bd.at_ (hin'.below (hb.mono hB)) (i := j) (x := l'[j]) (List.getElem?_eq_getElem hlt')
        have gg1 : (0 : Int) ≤ (j : Int) := by omega
        have gg2 : (j : Int) < (l.length : Int) := by omega
        have gg3 : (j : Int) < (l'.length : Int) := by omega
        have al : ∀ (p : Addr), p.block < wr.heap.size → (wr.alloc (.cells #[.string l[j].t, .slice l[j].sa l[j].s.length l[j].sc, .int .i64 l[j].k, .int .i64 l[j].n] 123)).cell? p = wr.cell? p := fun p hp => World.cell?_alloc_lt wr _ p hp
        have v0 := (al ⟨b', o' + j * 4, none⟩ (show b' < wr.heap.size by omega)).trans c0'
        have v1 := (al ⟨b', o' + j * 4 + 1, none⟩ (show b' < wr.heap.size by omega)).trans c1'
        have v2 := (al ⟨b', o' + j * 4 + 2, none⟩ (show b' < wr.heap.size by omega)).trans c2'
        have v3 := (al ⟨b', o' + j * 4 + 3, none⟩ (show b' < wr.heap.size by omega)).trans c3'
        clear al
        have bn : Below wr.heap.size wr ((wr.alloc (.cells #[.string l[j].t, .slice l[j].sa l[j].s.length l[j].sc, .int .i64 l[j].k, .int .i64 l[j].n] 123)).alloc (.cells #[.string l'[j].t, .slice l'[j].sa l'[j].s.length l'[j].sc, .int .i64 l'[j].k, .int .i64 l'[j].n] 123)) := ((Below.refl _ _).alloc (Nat.le_refl _) _).alloc (by simp) _
        go_wp2_with fail
        refine (implEqB_any l[j] l'[j] B _ (hix.below (bn.mono (by omega))) (hix'.below (bn.mono (by omega))) (by simp; omega)).mono ?_
        rintro e w1 ⟨rfl, hb1⟩
        have hb2 : Below w.heap.size w w1 := hb.trans ((bn.trans (hb1.mono (by simp; omega))).mono hs2)
        clear bn hb1
        cases hq : Bd.eqB l[j] l'[j]
        · have Hq := Lib.hid hq
          go_wp2_with fail
          go_ret
          exact ⟨ret_bool (Bd.eqBL_no hlt hlt' Hq.out).symm, hb2⟩
        · have Hq := Lib.hid hq
          go_wp2_with fail
          go_roundw
          case rel => exact ⟨j + 1, by omega, by go_num, by (show _ = _); rw [Bd.eqBL_step hlt hlt', HE.out, Hq.out]; rfl, hb2⟩
          case measure => simp [intOf]; omega
      · have hj' : j = l.length := by omega
        subst hj'
        go_wp2_with fail
        go_ret
        exact ⟨ret_bool (by have := HE.out; rwa [List.take_length, List.take_of_length_le (by omega), eq_comm] at this), hb⟩
  · have hn1 : ((l.length : Int) != (l'.length : Int)) = true := by simpa using (by omega : ¬ (l.length : Int) = (l'.length : Int))
    have Hn := Lib.hid (Bd.eqBL_length l l' hlen)
    go_enter Try.func98, Try.ntmps98
    go_wp2_with fail
    go_ret
    exact ⟨ret_bool Hn.out.symm, Below.refl _ _⟩

set_option maxHeartbeats 400000 in
theorem implEqBL_any (A : Option Addr) (c : Nat) (l : List Bd) (A' : Option Addr) (c' : Nat) (l' : List Bd) (B : Nat) (w : World) (hin : Bd.E.LIn w B A c l) (hin' : Bd.E.LIn w B A' c' l') (hB : B ≤ w.heap.size) :
    Calls Try.prog 47 #[.slice A l.length c, .slice A' l'.length c'] w fun x w' => x = .returned (.bool (Bd.eqBL l l')) ∧ Below w.heap.size w w' := by
  go_enter Try.func47, Try.ntmps47
  go_wp2_with fail
  refine (equalFuncB_any A c l A' c' l' B _ hin hin' hB).mono ?_
  rintro e w1 ⟨rfl, hb⟩
  go_wp2_with fail
  go_ret
  exact ⟨rfl, hb⟩

set_option maxRecDepth 100000 in
set_option maxHeartbeats 8000000 in
theorem specEqBL_any (A : Option Addr) (c : Nat) (l : List Bd) (A' : Option Addr) (c' : Nat) (l' : List Bd) (B : Nat) (w : World) (hin : Bd.E.LIn w B A c l) (hin' : Bd.E.LIn w B A' c' l') (hB : B ≤ w.heap.size) :
    Calls Try.prog 43 #[.slice A l.length c, .slice A' l'.length c'] w fun x w' => x = .returned (.bool (Bd.eqBL l l')) ∧ Below w.heap.size w w' := by
  have hcap := hin.cap
  have hcap' := hin'.cap
  by_cases hlen : l.length = l'.length
  · have hn1 : ((l.length : Int) != (l'.length : Int)) = false := by simp [hlen]
    have hlen1 : l'.length ≤ l.length := by omega
    have hlen2 : l.length ≤ l'.length := by omega
    clear hlen
    go_enter Try.func43, Try.ntmps43
    go_wp2_with fail
    go_loopw [5, 13] (fun _ i wr => ∃ j : Nat, j ≤ l.length ∧ i = .int .i64 j ∧ Hid (Bd.eqBL (l.take j) (l'.take j) = true) ∧ Below w.heap.size w wr) (fun _ i _ => l.length - (intOf i).toNat)
    case atStart => exact ⟨0, Nat.zero_le _, rfl, by simp [Hid, Bd.eqBL], Below.refl _ _⟩
    case round =>
      obtain ⟨j, hj, rfl, HE, hb⟩ := hrel
      have hs2 := hb.size
      by_cases hlt : j < l.length
      · have hlt' : j < l'.length := by omega
        obtain ⟨b, o, rfl, hblk, c0, c1, c2, c3, hix⟩ := Bd.at_ (hin.below (hb.mono hB)) (i := j) (x := l[j]) (List.getElem?_eq_getElem hlt)
        obtain ⟨b', o', rfl, hblk', d0, d1, d2, d3, hix'⟩ := Bd.at_ (hin'.below (hb.mono hB)) (i := j) (x := l'[j]) (List.getElem?_eq_getElem hlt')
        have gg1 : (0 : Int) ≤ (j : Int) := by omega
        have gg2 : (j : Int) < (l.length : Int) := by omega
        have gg3 : (j : Int) < (l'.length : Int) := by omega
        have lb : b < wr.heap.size := by omega
        have lb2 : b' < wr.heap.size := by omega
        have K : Hid (Bd.eqB l[j] l'[j] = (l[j].t.toList == l'[j].t.toList && (l[j].s == l'[j].s && (l[j].k == l'[j].k && l[j].n == l'[j].n)))) := rfl
        cases ht : (l[j].t.toList == l'[j].t.toList)
        · have ht1 : (l[j].t.toList != l'[j].t.toList) = true := by simp [bne, ht]
          have HN := Lib.hid (Bd.eqBL_no hlt hlt' (by rw [K.out, ht]; rfl))
          go_wp2_with fail
          go_quiet (fail)
          all_goals go_wp2_with fail
          all_goals go_ret
          all_goals exact ⟨ret_bool HN.out.symm, below_drewN hb _⟩
        · have ht1 : (l[j].t.toList != l'[j].t.toList) = false := by simp [bne, ht]
          have HT := Lib.hid ht
          cases hs : (l[j].s == l'[j].s)
          · have HS := Lib.hid hs
            have HN := Lib.hid (Bd.eqBL_no hlt hlt' (by rw [K.out, HT.out, hs]; rfl))
            clear hs
            go_wp2_with fail
            go_quiet ((go_at_call 94; exact Calls.quiet_of ((sameIntsQ_any _ _ _ _ _ _ B _ (hix.2.drewN _) (hix'.2.drewN _) (show B ≤ wr.heap.size by omega)).mono fun _ _ h => ⟨by rw [h.1, HS.out], h.2⟩)))
            all_goals go_wp2_with fail
            all_goals go_ret
            all_goals exact ⟨ret_bool HN.out.symm, below_drewN hb _⟩
          · have HS := Lib.hid hs
            clear hs
            cases hk : (l[j].k == l'[j].k)
            · have hk1 : (l[j].k != l'[j].k) = true := by simp [bne, hk]
              have HN := Lib.hid (Bd.eqBL_no hlt hlt' (by rw [K.out, HT.out, HS.out, hk]; rfl))
              go_wp2_with fail
              go_quiet ((go_at_call 94; exact Calls.quiet_of ((sameIntsQ_any _ _ _ _ _ _ B _ (hix.2.drewN _) (hix'.2.drewN _) (show B ≤ wr.heap.size by omega)).mono fun _ _ h => ⟨by rw [h.1, HS.out], h.2⟩)))
              all_goals go_wp2_with fail
              all_goals go_ret
              all_goals exact ⟨ret_bool HN.out.symm, below_drewN hb _⟩
            · have hk1 : (l[j].k != l'[j].k) = false := by simp [bne, hk]
              have HK := Lib.hid hk
              cases hn : (l[j].n == l'[j].n)
              · have hn2 : (l[j].n != l'[j].n) = true := by simp [bne, hn]
                have HN := Lib.hid (Bd.eqBL_no hlt hlt' (by rw [K.out, HT.out, HS.out, HK.out, hn]; rfl))
                go_wp2_with fail
                go_quiet ((go_at_call 94; exact Calls.quiet_of ((sameIntsQ_any _ _ _ _ _ _ B _ (hix.2.drewN _) (hix'.2.drewN _) (show B ≤ wr.heap.size by omega)).mono fun _ _ h => ⟨by rw [h.1, HS.out], h.2⟩)))
                all_goals go_wp2_with fail
                all_goals go_ret
                all_goals exact ⟨ret_bool HN.out.symm, below_drewN hb _⟩
              · have hn2 : (l[j].n != l'[j].n) = false := by simp [bne, hn]
                have HY := Lib.hid (show Bd.eqB l[j] l'[j] = true by rw [K.out, HT.out, HS.out, HK.out, hn]; rfl)
                go_wp2_with fail
                go_quiet ((go_at_call 94; exact Calls.quiet_of ((sameIntsQ_any _ _ _ _ _ _ B _ (hix.2.drewN _) (hix'.2.drewN _) (show B ≤ wr.heap.size by omega)).mono fun _ _ h => ⟨by rw [h.1, HS.out], h.2⟩)))
                all_goals go_wp2_with fail
                all_goals refine ⟨⟨j + 1, by omega, by go_num, by (show _ = _); rw [Bd.eqBL_step hlt hlt', HE.out, HY.out]; rfl, below_drewN hb _⟩, by simp [intOf]; omega⟩
      · have hj' : j = l.length := by omega
        subst hj'
        go_wp2_with fail
        go_ret
        exact ⟨ret_bool (by have := HE.out; rwa [List.take_length, List.take_of_length_le (by omega), eq_comm] at this), hb⟩
  · have hn1 : ((l.length : Int) != (l'.length : Int)) = true := by simpa using (by omega : ¬ (l.length : Int) = (l'.length : Int))
    have Hn := Lib.hid (Bd.eqBL_length l l' hlen)
    go_enter Try.func43, Try.ntmps43
    go_wp2_with fail
    go_ret
    exact ⟨ret_bool Hn.out.symm, Below.refl _ _⟩
end Go.Proofs.Ytfbfmajjooannaa
