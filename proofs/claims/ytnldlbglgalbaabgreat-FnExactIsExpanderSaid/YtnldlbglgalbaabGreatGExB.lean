/-
  EqualRules: the program and the model walked (written by gen/rul.py).
-/
import Derived.Test.YtnldlbglgalbaabGreatRul
import Derived.Deep.RegionHeld3
import Derived.Test.YtnldlbglgalbaabGreatGBnd
import Derived.Test.YtnldlbglgalbaabGreatSEqi
import Derived.Deep.RegionLaw
import Derived.Deep.QuietTactic
import Derived.BigQuiet
import Derived.Deep.DeepCutAuto
import Derived.Test.YtnldlbglgalbaabGreatGElT
import Derived.Test.YtnldlbglgalbaabGreatMarks
namespace Go.Proofs.YtnldlbglgalbaabGreat
open Go.RowKit

namespace Ru
theorem eqL_er {l m l' m' : List S} (h : S.erL l = S.erL l') (k : S.erL m = S.erL m') : S.eqL l m = S.eqL l' m' := by
  have a : S.er (S.itm none 0 l) = S.er (S.itm none 0 l') := by simp only [S.itm, S.er, h]
  have b : S.er (S.itm none 0 m) = S.er (S.itm none 0 m') := by simp only [S.itm, S.er, k]
  have e : S.eqB (S.itm none 0 l) (S.itm none 0 m) = S.eqB (S.itm none 0 l') (S.itm none 0 m') := by rw [S.eqB_er, a, b, ← S.eqB_er]
  simpa [S.itm, S.eqB] using e
theorem eqB_er {x y x0 y0 : Ru} (hx : x.er = x0.er) (hy : y.er = y0.er) : eqB x y = eqB x0 y0 := by
  have a := Prod.mk.inj hx
  have a2 := Prod.mk.inj a.2
  have b := Prod.mk.inj hy
  have b2 := Prod.mk.inj b.2
  unfold eqB
  rw [eqL_er a.1 b.1, eqL_er a2.1 b2.1, eqL_er a2.2 b2.2]
end Ru

end Go.Proofs.YtnldlbglgalbaabGreat

namespace Go.Proofs.YtnldlbglgalbaabGreat
open Go.RowKit

theorem drewN_one (w : World) (q : Nat) : (w.drewN q).drew = w.drewN (q + 1) := by rw [← World.drewN_drewN]; rfl
theorem below_drewN {B : Nat} {w w1 : World} (h : Below B w w1) (n : Nat) : Below B w (w1.drewN n) := ⟨h.os, h.tape, h.output, h.size, h.block⟩
set_option maxHeartbeats 400000 in
theorem sameIntsQ_any (A : Option Addr) (c : Nat) (l : List Int) (A' : Option Addr) (c' : Nat) (l' : List Int) (B : Nat) (w : World) (hin : IIn w B A c l) (hin' : IIn w B A' c' l') (hB : B ≤ w.heap.size) :
    Calls Tryz.prog 121 #[.slice A l.length c, .slice A' l'.length c'] w fun e w' => e = .returned (.bool (l == l')) ∧ ∃ m, w' = w.drewN m := by
  have hcap := hin.cap
  have hcap' := hin'.cap
  by_cases hlen : l.length = l'.length
  · have hn1 : ((l.length : Int) != (l'.length : Int)) = false := by simp [hlen]
    have Hlen := Lib.hid hlen
    have hlen1 : l'.length ≤ l.length := by omega
    have hlen2 : l.length ≤ l'.length := by omega
    clear hlen
    go_enter Tryz.func121, Tryz.ntmps121
    go_wp2_with fail
    go_loopw [13] (fun i wr => ∃ j : Nat, j ≤ l.length ∧ i = .int .i64 j ∧ Hid (l.take j = l'.take j) ∧ ∃ q, wr = w.drewN q) (fun i _ => l.length - (intOf i).toNat)
    case atStart => exact ⟨0, Nat.zero_le _, rfl, by simp [Hid], 0, rfl⟩
    case round =>
      obtain ⟨j, hj, rfl, HE, q, rfl⟩ := hrel
      by_cases hlt : j < l.length
      · have hlt' : j < l'.length := by omega
        obtain ⟨b, o, rfl, hblk, c0⟩ := hin.at_ hlt
        obtain ⟨b', o', rfl, hblk', c0'⟩ := hin'.at_ hlt'
        have g2 : (j : Int) < (l.length : Int) := by omega
        have g3 : (j : Int) < (l'.length : Int) := by omega
        by_cases hq : l[j] = l'[j]
        · have hq1 : (l[j] != l'[j]) = false := by simp [hq]
          have HT : Hid (l.take (j + 1) = l'.take (j + 1)) := by
            show _ = _
            rw [List.take_succ_eq_append_getElem hlt, List.take_succ_eq_append_getElem hlt', HE.out, hq]
          clear hq
          go_wp2_with fail
          go_region
          all_goals go_wp2_with fail
          all_goals refine ⟨⟨j + 1, by omega, by go_num, HT, q + 1, drewN_one _ _⟩, by simp [intOf]; omega⟩
        · have hq1 : (l[j] != l'[j]) = true := by simpa using hq
          have HF : Hid ((l == l') = false) := by
            show _ = _
            rw [beq_eq_false_iff_ne]
            rintro rfl
            exact hq rfl
          clear hq
          go_wp2_with fail
          go_region
          all_goals go_wp2_with fail
          all_goals go_ret
          all_goals exact ⟨ret_bool HF.out.symm, q + 1, drewN_one _ _⟩
      · have hj' : j = l.length := by omega
        subst hj'
        have HF : Hid ((l == l') = true) := by
          show _ = _
          have := HE.out
          rw [List.take_length, List.take_of_length_le (by omega)] at this
          simp [this]
        go_wp2_with fail
        go_ret
        exact ⟨ret_bool HF.out.symm, q, rfl⟩
  · have hn1 : ((l.length : Int) != (l'.length : Int)) = true := by simpa using (by omega : ¬ (l.length : Int) = (l'.length : Int))
    have HF : Hid ((l == l') = false) := by
      show _ = _
      rw [beq_eq_false_iff_ne]
      rintro rfl
      exact hlen rfl
    go_enter Tryz.func121, Tryz.ntmps121
    go_wp2_with fail
    go_ret
    exact ⟨ret_bool HF.out.symm, 0, rfl⟩


namespace Bd
def eqB (x y : Bd) : Bool := x.t.toList == y.t.toList && (x.s == y.s && (x.k == y.k && x.n == y.n))
def eqBL : List Bd → List Bd → Bool | [], [] => true | [], _ :: _ => false | _ :: _, [] => false | a :: r, b :: s => eqB a b && eqBL r s
theorem eqB_er {a b a2 b2 : Bd} (h1 : er a = er a2) (h2 : er b = er b2) : eqB a b = eqB a2 b2 := by
  obtain ⟨e1, e2, e3, e4⟩ := fields_of_er h1
  obtain ⟨f1, f2, f3, f4⟩ := fields_of_er h2
  unfold eqB; rw [e1, e2, e3, e4, f1, f2, f3, f4]
theorem eqBL_er : ∀ {a b a2 b2 : List Bd}, erL a = erL a2 → erL b = erL b2 → eqBL a b = eqBL a2 b2
  | [], b, [], b2, _, h2 => by cases b <;> cases b2 <;> simp [erL] at h2 <;> rfl
  | [], _, _ :: _, _, h1, _ => by simp [erL] at h1
  | _ :: _, _, [], _, h1, _ => by simp [erL] at h1
  | x :: r, [], x2 :: r2, [], _, _ => rfl
  | x :: r, [], x2 :: r2, _ :: _, _, h2 => by simp [erL] at h2
  | x :: r, _ :: _, x2 :: r2, [], _, h2 => by simp [erL] at h2
  | x :: r, y :: s, x2 :: r2, y2 :: s2, h1, h2 => by
    have a1 : er x = er x2 ∧ erL r = erL r2 := by simpa [erL] using h1
    have a2 : er y = er y2 ∧ erL s = erL s2 := by simpa [erL] using h2
    simp only [eqBL, eqB_er a1.1 a2.1, eqBL_er a1.2 a2.2]
theorem eqBL_length : ∀ (l l' : List Bd), l.length ≠ l'.length → eqBL l l' = false
  | [], [], h => absurd rfl h
  | [], _ :: _, _ => rfl
  | _ :: _, [], _ => rfl
  | a :: r, b :: s, h => by simp only [eqBL, eqBL_length r s (by simpa using h), Bool.and_false]
theorem eqBL_append : ∀ (a b c d : List Bd), a.length = c.length → eqBL (a ++ b) (c ++ d) = (eqBL a c && eqBL b d)
  | [], b, [], d, _ => by simp [eqBL]
  | [], _, _ :: _, _, h => by simp at h
  | _ :: _, _, [], _, h => by simp at h
  | x :: r, b, y :: s, d, h => by simp only [List.cons_append, eqBL, eqBL_append r b s d (by simpa using h), Bool.and_assoc]
theorem eqBL_step {l l' : List Bd} {j : Nat} (h : j < l.length) (h' : j < l'.length) : eqBL (l.take (j + 1)) (l'.take (j + 1)) = (eqBL (l.take j) (l'.take j) && eqB l[j] l'[j]) := by
  rw [List.take_succ_eq_append_getElem h, List.take_succ_eq_append_getElem h', eqBL_append _ _ _ _ (by simp; omega)]
  simp [eqBL]
theorem eqBL_no {l l' : List Bd} {j : Nat} (h : j < l.length) (h' : j < l'.length) (he : eqB l[j] l'[j] = false) : eqBL l l' = false := by
  have e1 := List.take_append_drop (j + 1) l
  have e2 := List.take_append_drop (j + 1) l'
  rw [← e1, ← e2, eqBL_append _ _ _ _ (by simp; omega), eqBL_step h h', he]
  simp
end Bd

end Go.Proofs.YtnldlbglgalbaabGreat

namespace Go.Proofs.YtnldlbglgalbaabGreat
open Go.RowKit

namespace Ru
def cells (x : Ru) : List Value := [.slice x.A0 x.l0.length x.c0, .slice x.A1 x.l1.length x.c1, .slice x.A2 x.l2.length x.c2]
def blks (x : Ru) : List Nat := S.blks (S.itm x.A0 x.c0 x.l0) ++ (S.blks (S.itm x.A1 x.c1 x.l1) ++ S.blks (S.itm x.A2 x.c2 x.l2))
theorem In.blk_lt {w : World} {B : Nat} {x : Ru} (h : In w B x) : ∀ k ∈ blks x, k < B := by
  intro k hk
  rcases List.mem_append.1 hk with hk | hk
  · exact h.a.blk_lt k hk
  · rcases List.mem_append.1 hk with hk | hk
    · exact h.b.blk_lt k hk
    · exact h.c.blk_lt k hk
theorem In.keepB {w w' : World} {B : Nat} {x : Ru} (h : In w B x) (hk : ∀ k, k ∈ blks x → w'.heap[k]? = w.heap[k]?) : In w' B x :=
  ⟨h.a.keepB fun k m => hk k (List.mem_append.2 (.inl m)), h.b.keepB fun k m => hk k (List.mem_append.2 (.inr (List.mem_append.2 (.inl m)))), h.c.keepB fun k m => hk k (List.mem_append.2 (.inr (List.mem_append.2 (.inr m))))⟩
def E : Elem Ru where
  cells := cells
  n := 3
  pos := by decide
  len := fun _ => rfl
  one := by
    intro b u hu
    simp only [cells, List.mem_cons, List.not_mem_nil, or_false] at hu
    rcases hu with rfl | rfl | rfl <;> rfl
  In := In
  blks := blks
  lt := fun h => h.blk_lt
  keepB := fun h hk => h.keepB hk
  more := fun h hB => h.more hB
theorem Own.e {lo hi : Nat} {w : World} {x : Ru} (h : Own lo hi w x) : E.Own lo hi w x := by
  refine ⟨h.inn, ?_, ?_, ?_⟩
  · intro k hk
    rcases List.mem_append.1 hk with hk | hk
    · exact h.a.lo_ k hk
    · rcases List.mem_append.1 hk with hk | hk
      · exact h.b.lo_ k hk
      · exact h.c.lo_ k hk
  · show (blks x).Nodup
    refine List.nodup_append.2 ⟨h.a.nd, List.nodup_append.2 ⟨h.b.nd, h.c.nd, ?_⟩, ?_⟩
    · rintro k h1 q h2 rfl
      exact h.bc k h1 h2
    · rintro k h1 q h2 rfl
      rcases List.mem_append.1 h2 with h2 | h2
      · exact h.ab k h1 h2
      · exact h.ac k h1 h2
  · intro k hk
    rcases List.mem_append.1 hk with hk | hk
    · exact h.a.fr k hk
    · rcases List.mem_append.1 hk with hk | hk
      · exact h.b.fr k hk
      · exact h.c.fr k hk
def erR (l : List Ru) : List (List S × List S × List S) := l.map er
def bulkR : List Ru → Nat | [] => 0 | b :: r => 1 + bulk b + bulkR r
theorem erR_append (a b : List Ru) : erR (a ++ b) = erR a ++ erR b := by simp [erR]
theorem erR_length (a : List Ru) : (erR a).length = a.length := by simp [erR]
theorem bulkR_mem {l : List Ru} {b : Ru} (h : b ∈ l) : 1 + bulk b ≤ bulkR l := by
  induction l with
  | nil => cases h
  | cons e r ih =>
    simp only [bulkR]
    rcases List.mem_cons.1 h with rfl | h
    · omega
    · have := ih h; omega
theorem bulkR_len (l : List Ru) : l.length ≤ bulkR l := by
  induction l with
  | nil => simp
  | cons e r ih => simp only [bulkR, List.length_cons]; omega
theorem bulkR_append (a b : List Ru) : bulkR (a ++ b) = bulkR a + bulkR b := by
  induction a with
  | nil => simp [bulkR]
  | cons e r ih => simp only [List.cons_append, bulkR, ih]; omega
theorem erR_get {a b : List Ru} (h : erR a = erR b) {j : Nat} (ha : j < a.length) (hb : j < b.length) : er a[j] = er b[j] := by
  have h1 : (erR a)[j]? = (erR b)[j]? := by rw [h]
  simp only [erR, List.getElem?_map, List.getElem?_eq_getElem ha, List.getElem?_eq_getElem hb, Option.map_some, Option.some.injEq] at h1
  exact h1
/-- The cells of element i. -/
theorem at_ {w : World} {B : Nat} {A : Option Addr} {c : Nat} {l : List Ru} (h : E.LIn w B A c l) {i : Nat} {x : Ru} (hi : l[i]? = some x) :
    ∃ b o : Nat, A = some ⟨b, o, none⟩ ∧ b < B ∧ w.cell? ⟨b, o + i * 3, none⟩ = some (.slice x.A0 x.l0.length x.c0) ∧ w.cell? ⟨b, o + i * 3 + 1, none⟩ = some (.slice x.A1 x.l1.length x.c1) ∧ w.cell? ⟨b, o + i * 3 + 2, none⟩ = some (.slice x.A2 x.l2.length x.c2) ∧ In w B x := by
  have e3 : E.n = 3 := rfl
  obtain ⟨b, o, e, hb, hc, hx⟩ := h.at_ hi
  exact ⟨b, o, e, hb, hc 0 _ rfl, hc 1 _ rfl, hc 2 _ rfl, hx⟩
def eqR : List Ru → List Ru → Bool | [], [] => true | [], _ :: _ => false | _ :: _, [] => false | a :: r, b :: s => eqB a b && eqR r s
theorem eqR_er : ∀ {a b a2 b2 : List Ru}, erR a = erR a2 → erR b = erR b2 → eqR a b = eqR a2 b2
  | [], b, [], b2, _, h2 => by cases b <;> cases b2 <;> simp [erR] at h2 <;> rfl
  | [], _, _ :: _, _, h1, _ => by simp [erR] at h1
  | _ :: _, _, [], _, h1, _ => by simp [erR] at h1
  | x :: r, [], x2 :: r2, [], _, _ => rfl
  | x :: r, [], x2 :: r2, _ :: _, _, h2 => by simp [erR] at h2
  | x :: r, _ :: _, x2 :: r2, [], _, h2 => by simp [erR] at h2
  | x :: r, y :: s, x2 :: r2, y2 :: s2, h1, h2 => by
    have a1 : er x = er x2 ∧ erR r = erR r2 := by simpa [erR] using h1
    have a2 : er y = er y2 ∧ erR s = erR s2 := by simpa [erR] using h2
    simp only [eqR, eqB_er a1.1 a2.1, eqR_er a1.2 a2.2]
theorem eqR_length : ∀ (l l' : List Ru), l.length ≠ l'.length → eqR l l' = false
  | [], [], h => absurd rfl h
  | [], _ :: _, _ => rfl
  | _ :: _, [], _ => rfl
  | a :: r, b :: s, h => by simp only [eqR, eqR_length r s (by simpa using h), Bool.and_false]
theorem eqR_append : ∀ (a b c d : List Ru), a.length = c.length → eqR (a ++ b) (c ++ d) = (eqR a c && eqR b d)
  | [], b, [], d, _ => by simp [eqR]
  | [], _, _ :: _, _, h => by simp at h
  | _ :: _, _, [], _, h => by simp at h
  | x :: r, b, y :: s, d, h => by simp only [List.cons_append, eqR, eqR_append r b s d (by simpa using h), Bool.and_assoc]
theorem eqR_step {l l' : List Ru} {j : Nat} (h : j < l.length) (h' : j < l'.length) : eqR (l.take (j + 1)) (l'.take (j + 1)) = (eqR (l.take j) (l'.take j) && eqB l[j] l'[j]) := by
  rw [List.take_succ_eq_append_getElem h, List.take_succ_eq_append_getElem h', eqR_append _ _ _ _ (by simp; omega)]
  simp [eqR]
theorem eqR_no {l l' : List Ru} {j : Nat} (h : j < l.length) (h' : j < l'.length) (he : eqB l[j] l'[j] = false) : eqR l l' = false := by
  have e1 := List.take_append_drop (j + 1) l
  have e2 := List.take_append_drop (j + 1) l'
  rw [← e1, ← e2, eqR_append _ _ _ _ (by simp; omega), eqR_step h h', he]
  simp
end Ru

theorem infoR : (Tryz.prog.info? 29).map (fun i => (i.zero, i.size, i.bytes)) = some (some (.agg #[.slice none 0 0, .slice none 0 0, .slice none 0 0]), 3, 72) := by kernel_rfl

/-- Returned: a row of rules of the call's own. -/
def RetRR (x : List (List S × List S × List S)) (w : World) (e : Ending) (w' : World) : Prop := ∃ (A : Option Addr) (c : Nat) (l : List Ru), e = .returned (.slice A l.length c) ∧ Ru.erR l = x ∧ Ru.E.LOwn w.heap.size w'.heap.size w' A c l ∧ Below w.heap.size w w'

set_option maxRecDepth 100000 in
set_option maxHeartbeats 1000000 in
theorem toRuL_any (A : Option Addr) (c : Nat) (l : List Ru) (B : Nat) (w : World) (hbk : Ru.bulkR l ≤ 2000000) (hin : Ru.E.LIn w B A c l) (hB : B ≤ w.heap.size) : Calls Tryz.prog 53 #[.slice A l.length c] w (RetRR (Ru.erR l) w) := by
  have hcap := hin.cap
  have hll := Ru.bulkR_len l
  obtain ⟨i0, hi0, hz0, hz1, hz2⟩ := info_parts infoR
  have hmk := fun W => run_make_rowN (P := Tryz.prog) 59 29 i0 _ Tryz.underlying59 hi0 hz0 .i64 .i64 l.length l.length (Nat.le_refl _) (by rw [hz2]; omega) (by omega) W
  rw [hz1] at hmk
  go_enter Tryz.func53, Tryz.ntmps53
  go_wp2_with fail
  go_loopw [4] (fun i wr => ∃ j : Nat, j ≤ l.length ∧ i = .int .i64 j ∧ ∃ ds : List Ru, Hid (Ru.erR ds = Ru.erR (l.take j)) ∧ ds.length ≤ j ∧ j ≤ ds.length ∧ Ru.E.Fill wr w.heap.size 29 l.length ds ∧ Below w.heap.size w wr) (fun i _ => l.length - (intOf i).toNat)
  case atStart => exact ⟨0, Nat.zero_le _, rfl, [], by simp [Ru.erR, Hid], Nat.le_refl _, Nat.le_refl _, Elem.Fill.new w _ (by rw [size_madeCells]; show l.length * 3 = 3 * l.length; omega), (Below.refl _ _).alloc (Nat.le_refl _) _⟩
  case round =>
    obtain ⟨j, hj, rfl, ds, HE, hd1, hd2, hF, hb⟩ := hrel
    by_cases hlt : j < l.length
    · obtain ⟨b, o, rfl, hblk, c0, c1, c2, hix⟩ := Ru.at_ (hin.below (hb.mono hB)) (i := j) (x := l[j]) (List.getElem?_eq_getElem hlt)
      have hs2 := hb.size
      have hbk1 := Ru.bulkR_mem (l := l) (List.getElem_mem hlt)
      have hglt : w.heap.size < wr.heap.size := hF.row.lt
      have hs1 : l[j].bulk ≤ 2000000 := by omega
      go_wp2_with fail
      refine (toRu_any l[j] B _ hs1 hix (by omega)).mono ?_
      rintro e w1 ⟨d, rfl, hde, hodr, hb1⟩
      have hod := hodr.e
      clear hodr
      have hrow1 := hF.row.below hb1 hglt
      have e4 : Ru.E.n = 3 := rfl
      obtain ⟨v0, hc0⟩ := hrow1.old (i := j * 3) (by rw [e4]; omega)
      obtain ⟨v1, hc1⟩ := hrow1.old (i := j * 3 + 1) (by rw [e4]; omega)
      obtain ⟨v2, hc2⟩ := hrow1.old (i := j * 3 + 2) (by rw [e4]; omega)
      have f0 := hrow1.frozen (j * 3)
      have f1 := hrow1.frozen (j * 3 + 1)
      have f2 := hrow1.frozen (j * 3 + 2)
      have hst := hF.step hb1 hod (by omega)
      have ej : Ru.E.n * ds.length = j * 3 := by rw [e4]; omega
      rw [ej] at hst
      have Hst := Lib.hid hst
      have Hde := Lib.hid hde
      clear hde hst e4 ej hrow1
      simp only [Ru.val]
      go_wp2_with fail
      refine ⟨⟨j + 1, by omega, by go_num, ds ++ [d], ?_, by simp; omega, by simp; omega, Hst.out, ?_⟩, by simp [intOf]; omega⟩
      · show _ = _
        rw [List.take_succ_eq_append_getElem hlt, Ru.erR_append, Ru.erR_append, HE.out]
        simp [Ru.erR, Hde.out]
      · exact (((hb.trans (hb1.mono (by omega))).setCell (by simp) _).setCell (by simp) _).setCell (by simp) _
    · have hj' : j = l.length := by omega
      have hj'' : ds.length = l.length := by omega
      subst hj'
      have hdone := hF.done hj'' (by omega)
      have HE' := HE.out
      rw [List.take_length] at HE'
      have HR := Lib.hid HE'
      have HL := Lib.hid hj''
      clear hj'' HE'
      go_wp2_with fail
      go_ret
      exact ⟨some ⟨w.heap.size, 0, none⟩, l.length, ds, ret_sl HL.out.symm, HR.out, hdone, hb⟩

set_option maxRecDepth 100000 in
set_option maxHeartbeats 1000000 in
theorem szRuL_any (A : Option Addr) (c : Nat) (l : List Ru) (B : Nat) (w : World) (left : Int) (hcap : l.length ≤ c ∧ c ≤ 9223372036854775807) (h0 : 0 ≤ left) (h1 : left ≤ 1048576) (hin : Ru.E.LIn w B A c l) (hB : B ≤ w.heap.size) :
    Calls Tryz.prog 49 #[.slice A l.length c, .int .i64 left] w fun e w' => e = .returned (.int .i64 (szR (Ru.bulkR l) left)) ∧ Below w.heap.size w w' := by
  have hll := Ru.bulkR_len l
  by_cases hq : (l.length : Int) ≤ left
  · have q1 : ¬ (left - (l.length : Int) < 0) := by omega
    go_enter Tryz.func49, Tryz.ntmps49
    go_wp2_with fail
    go_loopw [1, 5] (fun v i wr => ∃ j : Nat, j ≤ l.length ∧ i = .int .i64 j ∧ v = .int .i64 (left - l.length - (Ru.bulkR (l.take j) - j)) ∧ (Ru.bulkR (l.take j) : Int) - j ≤ left - l.length ∧ j ≤ Ru.bulkR (l.take j) ∧ Below w.heap.size w wr) (fun _ i _ => l.length - (intOf i).toNat)
    case atStart => exact ⟨0, Nat.zero_le _, rfl, by simp [Ru.bulkR], by simp [Ru.bulkR]; omega, by simp, Below.refl _ _⟩
    case round =>
      obtain ⟨j, hj, rfl, rfl, hle, hjb, hb⟩ := hrel
      have hs2 := hb.size
      by_cases hlt : j < l.length
      · obtain ⟨b, o, rfl, hblk, c0, c1, c2, hix⟩ := Ru.at_ (hin.below (hb.mono hB)) (i := j) (x := l[j]) (List.getElem?_eq_getElem hlt)
        have hstep : Ru.bulkR (l.take (j + 1)) = Ru.bulkR (l.take j) + (1 + l[j].bulk) := by
          rw [List.take_succ_eq_append_getElem hlt, Ru.bulkR_append]; simp only [Ru.bulkR]; omega
        have htot : Ru.bulkR l = Ru.bulkR (l.take (j + 1)) + Ru.bulkR (l.drop (j + 1)) := by rw [← Ru.bulkR_append, List.take_append_drop]
        have hlen := Ru.bulkR_len (l.drop (j + 1))
        rw [List.length_drop] at hlen
        have HS := Lib.hid hstep
        have HT := Lib.hid htot
        clear hstep htot
        by_cases hr : (l[j].bulk : Int) ≤ left - l.length - (Ru.bulkR (l.take j) - j)
        · have q2 : ¬ (left - (l.length : Int) - ((Ru.bulkR (l.take j) : Int) - j) - (l[j].bulk : Int) < 0) := by omega
          go_wp2_with fail
          refine (szRu_any l[j] B _ _ (by omega) (by omega) hix (by omega)).mono ?_
          rintro e w1 ⟨rfl, hb1⟩
          rw [szR_yes hr]
          have hb2 := hb.trans (hb1.mono (by omega))
          clear hb1
          go_wp2_with fail
          refine ⟨⟨j + 1, by omega, by go_num, ?_, by have := HS.out; omega, by have := HS.out; omega, hb2⟩, by simp [intOf]; omega⟩
          have := HS.out
          congr 1
          omega
        · have HF : Hid (szR (Ru.bulkR l) left = -1) := szR_no (by have := HS.out; have := HT.out; omega)
          go_wp2_with fail
          refine (szRu_any l[j] B _ _ (by omega) (by omega) hix (by omega)).mono ?_
          rintro e w1 ⟨rfl, hb1⟩
          rw [szR_no (by omega)]
          have hb2 := hb.trans (hb1.mono (by omega))
          clear hb1
          go_wp2_with fail
          go_ret
          exact ⟨ret_int HF.out.symm, hb2⟩
      · have hj' : j = l.length := by omega
        subst hj'
        rw [List.take_length] at hle
        have HF : Hid (szR (Ru.bulkR l) left = left - Ru.bulkR l) := szR_yes (by omega)
        go_wp2_with fail
        go_ret
        refine ⟨ret_int ?_, hb⟩
        rw [HF.out, List.take_length]; omega
  · have q1 : left - (l.length : Int) < 0 := by omega
    have HF : Hid (szR (Ru.bulkR l) left = -1) := szR_no (by omega)
    go_enter Tryz.func49, Tryz.ntmps49
    go_wp2_with fail
    go_ret
    exact ⟨ret_int HF.out.symm, Below.refl _ _⟩

set_option maxRecDepth 100000 in
set_option maxHeartbeats 1000000 in
theorem eqRuL_any (A : Option Addr) (c : Nat) (l : List Ru) (A' : Option Addr) (c' : Nat) (l' : List Ru) (B : Nat) (w : World) (he : Ru.erR l = Ru.erR l') (hin : Ru.E.LIn w B A c l) (hin' : Ru.E.LIn w B A' c' l') (hB : B ≤ w.heap.size) :
    Calls Tryz.prog 64 #[.slice A l.length c, .slice A' l'.length c'] w fun e w' => e = .returned (.bool true) ∧ Below w.heap.size w w' := by
  have hcap := hin.cap
  have hcap' := hin'.cap
  have hlen : l.length = l'.length := by rw [← Ru.erR_length l, he, Ru.erR_length]
  have hn1 : ((l.length : Int) != (l'.length : Int)) = false := by simp [hlen]
  have hlen1 : l'.length ≤ l.length := by omega
  have hlen2 : l.length ≤ l'.length := by omega
  clear hlen
  have HE := Lib.hid he
  clear he
  go_enter Tryz.func64, Tryz.ntmps64
  go_wp2_with fail
  go_loopw [5] (fun i wr => ∃ j : Nat, j ≤ l.length ∧ i = .int .i64 j ∧ Below w.heap.size w wr) (fun i _ => l.length - (intOf i).toNat)
  case atStart => exact ⟨0, Nat.zero_le _, rfl, Below.refl _ _⟩
  case round =>
    obtain ⟨j, hj, rfl, hb⟩ := hrel
    by_cases hlt : j < l.length
    · have hlt' : j < l'.length := by omega
      have hs2 := hb.size
      obtain ⟨b, o, rfl, hblk, c0, c1, c2, hix⟩ := Ru.at_ (hin.below (hb.mono hB)) (i := j) (x := l[j]) (List.getElem?_eq_getElem hlt)
      obtain ⟨b', o', rfl, hblk', d0, d1, d2, hix'⟩ := Ru.at_ (hin'.below (hb.mono hB)) (i := j) (x := l'[j]) (List.getElem?_eq_getElem hlt')
      have g2 : (j : Int) < (l.length : Int) := by omega
      have g3 : (j : Int) < (l'.length : Int) := by omega
      have heq := Ru.erR_get HE.out hlt hlt'
      have Heq := Lib.hid heq
      clear heq
      have lc : b < wr.heap.size := by omega
      have ld : b' < wr.heap.size := by omega
      go_wp2_with fail
      first
      | go_region_held3 (fun w' => w'.cell? ⟨b, o + j * 3, none⟩ = some (.slice l[j].A0 l[j].l0.length l[j].c0) ∧ w'.cell? ⟨b, o + j * 3 + 1, none⟩ = some (.slice l[j].A1 l[j].l1.length l[j].c1) ∧ w'.cell? ⟨b, o + j * 3 + 2, none⟩ = some (.slice l[j].A2 l[j].l2.length l[j].c2) ∧ w'.cell? ⟨b', o' + j * 3, none⟩ = some (.slice l'[j].A0 l'[j].l0.length l'[j].c0) ∧ w'.cell? ⟨b', o' + j * 3 + 1, none⟩ = some (.slice l'[j].A1 l'[j].l1.length l'[j].c1) ∧ w'.cell? ⟨b', o' + j * 3 + 2, none⟩ = some (.slice l'[j].A2 l'[j].l2.length l'[j].c2)) (go_keep)
          ((go_at_call 10; refine (eqRu_any l[j] l'[j] B _ Heq.out ?_ ?_ ?_).mono ?_; exact hix.drew; exact hix'.drew; (show B ≤ wr.heap.size); omega; rintro e w1 ⟨rfl, hb1⟩; have hb1 : Below wr.heap.size wr w1 := below_undrew hb1; have c0' := (hb1.cell (p := ⟨b, o + j * 3, none⟩) lc).trans c0; have c1' := (hb1.cell (p := ⟨b, o + j * 3 + 1, none⟩) lc).trans c1; have c2' := (hb1.cell (p := ⟨b, o + j * 3 + 2, none⟩) lc).trans c2; have d0' := (hb1.cell (p := ⟨b', o' + j * 3, none⟩) ld).trans d0; have d1' := (hb1.cell (p := ⟨b', o' + j * 3 + 1, none⟩) ld).trans d1; have d2' := (hb1.cell (p := ⟨b', o' + j * 3 + 2, none⟩) ld).trans d2))
      | fail
      all_goals go_wp2_with fail
      all_goals refine ⟨⟨j + 1, by omega, by go_num, hb.trans (hb1.mono (by omega))⟩, by simp [intOf]; omega⟩
    · have hj' : j = l.length := by omega
      subst hj'
      go_wp2_with fail
      go_ret
      exact ⟨rfl, hb⟩
end Go.Proofs.YtnldlbglgalbaabGreat

namespace Go.Proofs.YtnldlbglgalbaabGreat
open Go.RowKit

namespace Bd
/-- The marks of an element, and of a list. -/
def markE (b : Bd) (q : Int) : Bd := ⟨markB q, b.sa, b.sc, markI b.s (q + 1), q + 1 + b.s.length, q + 1 + b.s.length + 1⟩
def wtL : List Bd → Nat | [] => 0 | b :: r => (3 + b.s.length) + wtL r
def markL : List Bd → Int → List Bd | [], _ => [] | b :: r, q => markE b q :: markL r (q + (3 + b.s.length : Nat))
theorem wtL_append (a b : List Bd) : wtL (a ++ b) = wtL a + wtL b := by
  induction a with
  | nil => simp [wtL]
  | cons e r ih => simp only [List.cons_append, wtL, ih]; omega
theorem wtL_le (l : List Bd) : wtL l ≤ 3 * bulkL l := by
  induction l with
  | nil => simp [wtL]
  | cons e r ih => simp only [wtL, bulkL, bulk]; omega
theorem wtL_er (l : List Bd) : wtL (erL l) = wtL l := by
  induction l with
  | nil => rfl
  | cons e r ih => simp only [erL, List.map_cons, wtL] at ih ⊢; rw [ih]; rfl
theorem markL_length (l : List Bd) : ∀ q, (markL l q).length = l.length := by
  induction l with
  | nil => intro q; rfl
  | cons d r ih => intro q; simp [markL, ih]
theorem markL_append (a b : List Bd) : ∀ q, markL (a ++ b) q = markL a q ++ markL b (q + (wtL a : Nat)) := by
  induction a with
  | nil => intro q; simp [markL, wtL]
  | cons d r ih =>
    intro q
    simp only [List.cons_append, markL, wtL, ih, List.cons.injEq, true_and]
    congr 2
    omega
theorem markL_get (l : List Bd) : ∀ (q : Int) (j : Nat) (h : j < (markL l q).length) (h2 : j < l.length), (markL l q)[j] = markE l[j] (q + (wtL (l.take j) : Nat)) := by
  induction l with
  | nil => intro q j h; simp [markL] at h
  | cons d r ih =>
    intro q j h h2
    cases j with
    | zero => simp [markL, wtL]
    | succ j =>
      simp only [markL, List.getElem_cons_succ, List.take_succ_cons, wtL]
      rw [ih _ _ (by simpa [markL] using h) (by simpa using h2)]
      congr 1
      omega
theorem blks_markE (b : Bd) (q : Int) : E.blks (markE b q) = E.blks b := iblk_mark _ _ _
end Bd

theorem app_ne {α : Type} {a b : List α} {x : α} : a ++ x :: b ≠ [] := by cases a <;> simp

end Go.Proofs.YtnldlbglgalbaabGreat

namespace Go.Proofs.YtnldlbglgalbaabGreat
open Go.RowKit

structure Ex where
  A0 : Option Addr
  c0 : Nat
  l0 : List Bd
  A1 : Option Addr
  c1 : Nat
  l1 : List Ru
  s : Int
  v : Int
  t : Int
namespace Ex
def val (x : Ex) : Value := .agg #[.slice x.A0 x.l0.length x.c0, .slice x.A1 x.l1.length x.c1, .int .i64 x.s, .int .i64 x.v, .int .i64 x.t]
def er (x : Ex) : (List Bd × List (List S × List S × List S)) × (Int × Int × Int) := ((Bd.erL x.l0, Ru.erR x.l1), (x.s, x.v, x.t))
def bulk (x : Ex) : Nat := Bd.bulkL x.l0 + Ru.bulkR x.l1
structure In (w : World) (B : Nat) (x : Ex) : Prop where
  a : Bd.E.LIn w B x.A0 x.c0 x.l0
  b : Ru.E.LIn w B x.A1 x.c1 x.l1
structure Own (lo hi : Nat) (w : World) (x : Ex) : Prop where
  a : Bd.E.LOwn lo hi w x.A0 x.c0 x.l0
  b : Ru.E.LOwn lo hi w x.A1 x.c1 x.l1
  ab : ∀ k ∈ Bd.E.lblks x.A0 x.l0, k ∉ Ru.E.lblks x.A1 x.l1
theorem er_parts {x y : Ex} (h : x.er = y.er) : Bd.erL x.l0 = Bd.erL y.l0 ∧ Ru.erR x.l1 = Ru.erR y.l1 ∧ x.s = y.s ∧ x.v = y.v ∧ x.t = y.t := by
  unfold er at h
  obtain ⟨h1, h2⟩ := Prod.mk.inj h
  obtain ⟨h3, h4⟩ := Prod.mk.inj h1
  obtain ⟨h5, h6⟩ := Prod.mk.inj h2
  obtain ⟨h7, h8⟩ := Prod.mk.inj h6
  exact ⟨h3, h4, h5, h7, h8⟩
theorem In.below {w w' : World} {B : Nat} {x : Ex} (h : In w B x) (hb : Below B w w') : In w' B x := ⟨h.a.below hb, h.b.below hb⟩
theorem In.more {w : World} {B B' : Nat} {x : Ex} (h : In w B x) (hB : B ≤ B') : In w B' x := ⟨h.a.more hB, h.b.more hB⟩
theorem In.drew {w : World} {B : Nat} {x : Ex} (h : In w B x) : In w.drew B x := ⟨h.a.drew, h.b.drew⟩
theorem Own.inn {lo hi : Nat} {w : World} {x : Ex} (h : Own lo hi w x) : In w hi x := ⟨h.a.inn, h.b.inn⟩
theorem Own.below {lo hi : Nat} {w w' : World} {x : Ex} (h : Own lo hi w x) (hb : Below hi w w') : Own lo hi w' x := ⟨h.a.below hb, h.b.below hb, h.ab⟩
theorem Own.far {lo hi : Nat} {w : World} {x : Ex} (h : Own lo hi w x) {p : Addr} (hp : p.block < lo) (u : Value) : Own lo hi (w.setCell p u) x := ⟨h.a.far hp u, h.b.far hp u, h.ab⟩
theorem Own.wide {lo hi lo' hi' : Nat} {w : World} {x : Ex} (h : Own lo hi w x) (h1 : lo' ≤ lo) (h2 : hi ≤ hi') : Own lo' hi' w x := ⟨h.a.wide h1 h2, h.b.wide h1 h2, h.ab⟩
structure Box (w : World) (g : Nat) (x : Ex) : Prop where
  x0 : w.cell? ⟨g, 0, none⟩ = some (.slice x.A0 x.l0.length x.c0)
  x1 : w.cell? ⟨g, 1, none⟩ = some (.slice x.A1 x.l1.length x.c1)
  x2 : w.cell? ⟨g, 2, none⟩ = some (.int .i64 x.s)
  x3 : w.cell? ⟨g, 3, none⟩ = some (.int .i64 x.v)
  x4 : w.cell? ⟨g, 4, none⟩ = some (.int .i64 x.t)
theorem Box.keep {w w' : World} {g : Nat} {x : Ex} (h : Box w g x) (e : w'.heap[g]? = w.heap[g]?) : Box w' g x :=
  ⟨(World.cell?_of_block e).trans h.x0, (World.cell?_of_block e).trans h.x1, (World.cell?_of_block e).trans h.x2, (World.cell?_of_block e).trans h.x3, (World.cell?_of_block e).trans h.x4⟩
theorem Box.below {w w' : World} {g B : Nat} {x : Ex} (h : Box w g x) (hb : Below B w w') (hB : g < B) : Box w' g x := h.keep (hb.block g hB)
theorem Box.new (w : World) (x : Ex) (t : TypeId) : Box (w.alloc (.cells #[.slice x.A0 x.l0.length x.c0, .slice x.A1 x.l1.length x.c1, .int .i64 x.s, .int .i64 x.v, .int .i64 x.t] t)) w.heap.size x := by
  have h := D.Blk.new w t #[.slice x.A0 x.l0.length x.c0, .slice x.A1 x.l1.length x.c1, .int .i64 x.s, .int .i64 x.v, .int .i64 x.t]
  exact ⟨h.cell 0, h.cell 1, h.cell 2, h.cell 3, h.cell 4⟩
def eqB (x y : Ex) : Bool := Bd.eqBL x.l0 y.l0 && (Ru.eqR x.l1 y.l1 && (x.s == y.s && (x.v == y.v && x.t == y.t)))
theorem eqB_er {a b a2 b2 : Ex} (h1 : er a = er a2) (h2 : er b = er b2) : eqB a b = eqB a2 b2 := by
  obtain ⟨e1, e2, e3, e4, e5⟩ := er_parts h1
  obtain ⟨f1, f2, f3, f4, f5⟩ := er_parts h2
  unfold eqB; rw [Bd.eqBL_er e1 f1, Ru.eqR_er e2 f2, e3, e4, e5, f3, f4, f5]
end Ex

set_option maxRecDepth 100000 in
set_option maxHeartbeats 4000000 in
theorem szEx_any (x : Ex) (B : Nat) (w : World) (left : Int) (h0 : 0 ≤ left) (h1 : left ≤ 1048576) (hin : x.In w B) (hB : B ≤ w.heap.size) :
    Calls Tryz.prog 24 #[x.val, .int .i64 left] w fun e w' => e = .returned (.int .i64 (szR x.bulk left)) ∧ Below w.heap.size w w' := by
  have hbu : (x.bulk : Int) = (Bd.bulkL x.l0 : Int) + (Ru.bulkR x.l1 : Int) := by unfold Ex.bulk; omega
  obtain ⟨W1, hW1⟩ : ∃ W1, W1 = w.alloc (.cells #[.slice x.A0 x.l0.length x.c0, .slice x.A1 x.l1.length x.c1, .int .i64 x.s, .int .i64 x.v, .int .i64 x.t] 55) := ⟨_, rfl⟩
  have z1 : W1.heap.size = w.heap.size + 1 := by rw [hW1]; simp
  have B1 : Below w.heap.size w W1 := by rw [hW1]; exact (Below.refl _ _).alloc (Nat.le_refl _) _
  have X0 : Ex.Box W1 w.heap.size x := by rw [hW1]; exact Ex.Box.new _ _ _
  have hc0 := hin.a.cap
  have hc1 := hin.b.cap
  have hz := hin.below (B1.mono hB)
  unfold Ex.val
  by_cases hz0 : (Bd.bulkL x.l0 : Int) ≤ left
  · by_cases hz1 : (Ru.bulkR x.l1 : Int) ≤ left - (Bd.bulkL x.l0 : Int)
    · skip
      have HR : Hid (szR x.bulk left = left - (Bd.bulkL x.l0 : Int) - (Ru.bulkR x.l1 : Int)) := by show _ = _; rw [szR_yes (by omega)]; omega
      clear hbu
      have X0q := X0
      obtain ⟨a0, a1, a2, a3, a4⟩ := X0q
      go_enter Tryz.func24, Tryz.ntmps24
      go_wp2_with fail
      rw [← hW1]
      clear hW1 a0 a1 a2 a3 a4
      refine (szBdL_any x.A0 x.c0 x.l0 B _ left hc0 h0 h1 hz.a (by omega)).mono ?_
      rintro e w1 ⟨rfl, hb1⟩
      have y1 := hb1.size
      have X1 := X0.below hb1 (by omega)
      have b1 := B1.trans (hb1.mono (by omega))
      have hz1 := hin.below (b1.mono hB)
      clear hb1 X0 B1 hz
      rw [szR_yes (by omega)]
      have n0 : ¬ (left - (Bd.bulkL x.l0 : Int) < 0) := by omega
      have X0q := X1
      obtain ⟨a0, a1, a2, a3, a4⟩ := X0q
      go_wp2_with fail
      clear a0 a1 a2 a3 a4
      refine (szRuL_any x.A1 x.c1 x.l1 B _ (left - (Bd.bulkL x.l0 : Int)) hc1 (by omega) (by omega) hz1.b (by omega)).mono ?_
      rintro e w2 ⟨rfl, hb2⟩
      have b2 := b1.trans (hb2.mono (by omega))
      clear hb2 X1 hz1
      rw [szR_yes (by omega)]
      have n1 : ¬ (left - (Bd.bulkL x.l0 : Int) - (Ru.bulkR x.l1 : Int) < 0) := by omega
      go_wp2_with fail
      go_ret
      exact ⟨ret_int HR.out.symm, b2⟩
    · skip
      have HR : Hid (szR x.bulk left = -1) := szR_no (by omega)
      clear hbu
      have X0q := X0
      obtain ⟨a0, a1, a2, a3, a4⟩ := X0q
      go_enter Tryz.func24, Tryz.ntmps24
      go_wp2_with fail
      rw [← hW1]
      clear hW1 a0 a1 a2 a3 a4
      refine (szBdL_any x.A0 x.c0 x.l0 B _ left hc0 h0 h1 hz.a (by omega)).mono ?_
      rintro e w1 ⟨rfl, hb1⟩
      have y1 := hb1.size
      have X1 := X0.below hb1 (by omega)
      have b1 := B1.trans (hb1.mono (by omega))
      have hz1 := hin.below (b1.mono hB)
      clear hb1 X0 B1 hz
      rw [szR_yes (by omega)]
      have n0 : ¬ (left - (Bd.bulkL x.l0 : Int) < 0) := by omega
      have X0q := X1
      obtain ⟨a0, a1, a2, a3, a4⟩ := X0q
      go_wp2_with fail
      clear a0 a1 a2 a3 a4
      refine (szRuL_any x.A1 x.c1 x.l1 B _ (left - (Bd.bulkL x.l0 : Int)) hc1 (by omega) (by omega) hz1.b (by omega)).mono ?_
      rintro e w2 ⟨rfl, hb2⟩
      have b2 := b1.trans (hb2.mono (by omega))
      clear hb2 X1 hz1
      rw [szR_no (by omega)]
      go_wp2_with fail
      go_ret
      exact ⟨ret_int HR.out.symm, b2⟩
  · skip
    have HR : Hid (szR x.bulk left = -1) := szR_no (by omega)
    clear hbu
    have X0q := X0
    obtain ⟨a0, a1, a2, a3, a4⟩ := X0q
    go_enter Tryz.func24, Tryz.ntmps24
    go_wp2_with fail
    rw [← hW1]
    clear hW1 a0 a1 a2 a3 a4
    refine (szBdL_any x.A0 x.c0 x.l0 B _ left hc0 h0 h1 hz.a (by omega)).mono ?_
    rintro e w1 ⟨rfl, hb1⟩
    have y1 := hb1.size
    have X1 := X0.below hb1 (by omega)
    have b1 := B1.trans (hb1.mono (by omega))
    have hz1 := hin.below (b1.mono hB)
    clear hb1 X0 B1 hz
    rw [szR_no (by omega)]
    go_wp2_with fail
    go_ret
    exact ⟨ret_int HR.out.symm, b1⟩

set_option maxRecDepth 100000 in
set_option maxHeartbeats 8000000 in
theorem toEx_any (x : Ex) (B : Nat) (w : World) (hs : x.bulk ≤ 2000000) (hin : x.In w B) (hB : B ≤ w.heap.size) :
    Calls Tryz.prog 26 #[x.val] w fun e w' => ∃ d : Ex, e = .returned d.val ∧ d.er = x.er ∧ Ex.Own w.heap.size w'.heap.size w' d ∧ Below w.heap.size w w' := by
  have hb0 : Bd.bulkL x.l0 ≤ 2000000 := by unfold Ex.bulk at hs; omega
  have hb1 : Ru.bulkR x.l1 ≤ 2000000 := by unfold Ex.bulk at hs; omega
  obtain ⟨W1, hW1⟩ : ∃ W1, W1 = w.alloc (.cells #[.slice x.A0 x.l0.length x.c0, .slice x.A1 x.l1.length x.c1, .int .i64 x.s, .int .i64 x.v, .int .i64 x.t] 55) := ⟨_, rfl⟩
  obtain ⟨W2, hW2⟩ : ∃ W2, W2 = W1.alloc (.cells #[.slice none 0 0, .slice none 0 0, .int .i64 0, .int .i64 0, .int .i64 0] 61) := ⟨_, rfl⟩
  obtain ⟨W3, hW3⟩ : ∃ W3, W3 = W2.alloc (.cells #[.slice none 0 0, .slice none 0 0, .int .i64 0, .int .i64 0, .int .i64 0] 61) := ⟨_, rfl⟩
  have z1 : W1.heap.size = w.heap.size + 1 := by rw [hW1]; simp
  have z2 : W2.heap.size = w.heap.size + 1 + 1 := by rw [hW2]; simp [z1]
  have z3 : W3.heap.size = w.heap.size + 1 + 1 + 1 := by rw [hW3]; simp [z2]
  have B1 : Below w.heap.size w W1 := by rw [hW1]; exact (Below.refl _ _).alloc (Nat.le_refl _) _
  have B2 : Below W1.heap.size W1 W2 := by rw [hW2]; exact (Below.refl _ _).alloc (Nat.le_refl _) _
  have B3 : Below W2.heap.size W2 W3 := by rw [hW3]; exact (Below.refl _ _).alloc (Nat.le_refl _) _
  have X0 : Ex.Box W1 w.heap.size x := by rw [hW1]; exact Ex.Box.new _ _ _
  have X0 := (X0.below B2 (by omega)).below B3 (by omega)
  have R0 : D.Blk W2 (w.heap.size + 1) 61 #[.slice none 0 0, .slice none 0 0, .int .i64 0, .int .i64 0, .int .i64 0] := by rw [hW2, ← z1]; exact D.Blk.new _ _ _
  have R0 := R0.below B3 (by omega)
  have O0 : D.Blk W3 (w.heap.size + 1 + 1) 61 #[.slice none 0 0, .slice none 0 0, .int .i64 0, .int .i64 0, .int .i64 0] := by rw [hW3, ← z2]; exact D.Blk.new _ _ _
  have b0 : Below w.heap.size w W3 := (B1.trans (B2.mono (by omega))).trans (B3.mono (by omega))
  have y3 : w.heap.size + 3 ≤ W3.heap.size := by omega
  have i0 := hin.below (b0.mono hB)
  unfold Ex.val
  have X0q := X0
  obtain ⟨a0, a1, a2, a3, a4⟩ := X0q
  go_enter Tryz.func26, Tryz.ntmps26
  go_wp2_with fail
  rw [← hW1, ← hW2, ← hW3]
  clear hW1 hW2 hW3 B1 B2 B3 z1 z2 z3 a0 a1 a2 a3 a4
  refine (toBdL_any x.A0 x.c0 x.l0 B _ hb0 i0.a (by omega)).mono ?_
  rintro e v0 ⟨D0, d0, m0, rfl, he0, ho0, hq0⟩
  have zv0 := hq0.size
  have HE0 := Lib.hid he0
  have X0v := X0.below hq0 (by omega)
  have R0v := R0.below hq0 (by omega)
  have O0v := O0.below hq0 (by omega)
  have bv0 := b0.trans (hq0.mono (by omega))
  have P0 : Bd.E.LOwn (w.heap.size + 3) v0.heap.size v0 D0 d0 m0 := ho0.wide (by omega) (Nat.le_refl _)
  clear he0 ho0 hq0 X0 R0 O0 b0 i0
  have f0 := O0v.frozen 0
  have c0 : World.cell? v0 ⟨w.heap.size + 1 + 1, 0, none⟩ = some (.slice none 0 0) := O0v.cell 0
  have X0q := X0v
  obtain ⟨a0, a1, a2, a3, a4⟩ := X0q
  go_wp2_with fail
  obtain ⟨U1, hU1⟩ : ∃ U, U = v0.setCell ⟨w.heap.size + 1 + 1, 0, none⟩ (.slice D0 m0.length d0) := ⟨_, rfl⟩
  rw [← hU1]
  have O1 : D.Blk U1 (w.heap.size + 1 + 1) 61 #[.slice D0 m0.length d0, .slice none 0 0, .int .i64 0, .int .i64 0, .int .i64 0] := by rw [hU1]; have := O0v.set_ 0 (.slice D0 m0.length d0); simpa using this
  have R1 : D.Blk U1 (w.heap.size + 1) 61 #[.slice none 0 0, .slice none 0 0, .int .i64 0, .int .i64 0, .int .i64 0] := by rw [hU1]; exact Ru.blk_far R0v (by simp) _
  have X1 : Ex.Box U1 w.heap.size x := by rw [hU1]; exact X0v.keep (Below.heap_setCell _ _ _ _ (by simp; omega))
  have b1 : Below w.heap.size w U1 := by rw [hU1]; exact bv0.setCell (by simp; omega) _
  have y1 : U1.heap.size = v0.heap.size := by rw [hU1]; simp
  have P0 : Bd.E.LOwn (w.heap.size + 3) U1.heap.size U1 D0 d0 m0 := by rw [y1, hU1]; exact P0.far (by simp) _
  have i1 := hin.below (b1.mono hB)
  have yl1 : v0.heap.size ≤ U1.heap.size := by omega
  clear hU1 O0v R0v X0v bv0 f0 c0 a0 a1 a2 a3 a4 y1
  refine (toRuL_any x.A1 x.c1 x.l1 B _ hb1 i1.b (by omega)).mono ?_
  rintro e v1 ⟨D1, d1, m1, rfl, he1, ho1, hq1⟩
  have zv1 := hq1.size
  have HE1 := Lib.hid he1
  have nab : ∀ k ∈ Bd.E.lblks D0 m0, k ∉ Ru.E.lblks D1 m1 := fun k h0 h1 => by have := P0.inn.blk_lt k h0; have := ho1.lo_ k h1; omega
  have P0 : Bd.E.LOwn (w.heap.size + 3) v1.heap.size v1 D0 d0 m0 := (P0.below hq1).wide (Nat.le_refl _) zv1
  have P1 : Ru.E.LOwn (w.heap.size + 3) v1.heap.size v1 D1 d1 m1 := ho1.wide (by omega) (Nat.le_refl _)
  have X1v := X1.below hq1 (by omega)
  have R1v := R1.below hq1 (by omega)
  have O1v := O1.below hq1 (by omega)
  have bv1 := b1.trans (hq1.mono (by omega))
  clear he1 ho1 hq1 X1 R1 O1 b1 i1
  have PP : Hid (Ex.Own (w.heap.size + 3) v1.heap.size v1 ⟨D0, d0, m0, D1, d1, m1, x.s, x.v, x.t⟩) := ⟨P0, P1, nab⟩
  clear P0 P1 nab
  have c0 : World.cell? v1 ⟨w.heap.size + 1 + 1, 0, none⟩ = some (.slice D0 m0.length d0) := O1v.cell 0
  have c1 : World.cell? v1 ⟨w.heap.size + 1 + 1, 1, none⟩ = some (.slice none 0 0) := O1v.cell 1
  have c2 : World.cell? v1 ⟨w.heap.size + 1 + 1, 2, none⟩ = some (.int .i64 0) := O1v.cell 2
  have c3 : World.cell? v1 ⟨w.heap.size + 1 + 1, 3, none⟩ = some (.int .i64 0) := O1v.cell 3
  have c4 : World.cell? v1 ⟨w.heap.size + 1 + 1, 4, none⟩ = some (.int .i64 0) := O1v.cell 4
  have f1 := O1v.frozen 1
  have f2 := O1v.frozen 2
  have f3 := O1v.frozen 3
  have f4 := O1v.frozen 4
  have r0 : World.cell? v1 ⟨w.heap.size + 1, 0, none⟩ = some (.slice none 0 0) := R1v.cell 0
  have g0 := R1v.frozen 0
  have r1 : World.cell? v1 ⟨w.heap.size + 1, 1, none⟩ = some (.slice none 0 0) := R1v.cell 1
  have g1 := R1v.frozen 1
  have r2 : World.cell? v1 ⟨w.heap.size + 1, 2, none⟩ = some (.int .i64 0) := R1v.cell 2
  have g2 := R1v.frozen 2
  have r3 : World.cell? v1 ⟨w.heap.size + 1, 3, none⟩ = some (.int .i64 0) := R1v.cell 3
  have g3 := R1v.frozen 3
  have r4 : World.cell? v1 ⟨w.heap.size + 1, 4, none⟩ = some (.int .i64 0) := R1v.cell 4
  have g4 := R1v.frozen 4
  clear O1v R1v
  have X0q := X1v
  obtain ⟨a0, a1, a2, a3, a4⟩ := X0q
  go_wp2_with fail
  refine bodyPost_ret (v := .agg #[.slice D0 m0.length d0, .slice D1 m1.length d1, .int .i64 x.s, .int .i64 x.v, .int .i64 x.t]) (by simp [results, Tryz.results26, go_sem, r0, r1, r2, r3, r4]) rfl ⟨⟨D0, d0, m0, D1, d1, m1, x.s, x.v, x.t⟩, rfl, ?_, ?_, ?_⟩
  · show ((Bd.erL m0, Ru.erR m1), _) = _
    rw [HE0.out, HE1.out]; rfl
  · simp only [World.size_setCell]
    exact ((((((((((PP.out.far (by simp <;> omega) _).far (by simp <;> omega) _).far (by simp <;> omega) _).far (by simp <;> omega) _).far (by simp <;> omega) _).far (by simp <;> omega) _).far (by simp <;> omega) _).far (by simp <;> omega) _).far (by simp <;> omega) _).wide (by omega) (Nat.le_refl _))
  · exact (((((((((bv1.setCell (by simp <;> omega) _).setCell (by simp <;> omega) _).setCell (by simp <;> omega) _).setCell (by simp <;> omega) _).setCell (by simp <;> omega) _).setCell (by simp <;> omega) _).setCell (by simp <;> omega) _).setCell (by simp <;> omega) _).setCell (by simp <;> omega) _)

set_option maxRecDepth 100000 in
set_option maxHeartbeats 4000000 in
theorem eqEx_any (x y : Ex) (B : Nat) (w : World) (he : x.er = y.er) (hx : x.In w B) (hy : y.In w B) (hB : B ≤ w.heap.size) :
    Calls Tryz.prog 28 #[x.val, y.val] w fun e w' => e = .returned (.bool true) ∧ Below w.heap.size w w' := by
  obtain ⟨E0, E1, e2, e3, e4⟩ := Ex.er_parts he
  have n2 : (x.s != y.s) = false := by simp [e2]
  have n3 : (x.v != y.v) = false := by simp [e3]
  have n4 : (x.t != y.t) = false := by simp [e4]
  have H0 := Lib.hid E0
  have H1 := Lib.hid E1
  clear E0 E1 e2 e3 e4 he
  have hax := hx.a.cap
  have hbx := hx.b.cap
  have hay := hy.a.cap
  have hby := hy.b.cap
  obtain ⟨W1, hW1⟩ : ∃ W1, W1 = w.alloc (.cells #[.slice x.A0 x.l0.length x.c0, .slice x.A1 x.l1.length x.c1, .int .i64 x.s, .int .i64 x.v, .int .i64 x.t] 61) := ⟨_, rfl⟩
  obtain ⟨W2, hW2⟩ : ∃ W2, W2 = W1.alloc (.cells #[.slice y.A0 y.l0.length y.c0, .slice y.A1 y.l1.length y.c1, .int .i64 y.s, .int .i64 y.v, .int .i64 y.t] 61) := ⟨_, rfl⟩
  have z1 : W1.heap.size = w.heap.size + 1 := by rw [hW1]; simp
  have z2 : W2.heap.size = w.heap.size + 1 + 1 := by rw [hW2]; simp [z1]
  have B1 : Below w.heap.size w W1 := by rw [hW1]; exact (Below.refl _ _).alloc (Nat.le_refl _) _
  have B2 : Below W1.heap.size W1 W2 := by rw [hW2]; exact (Below.refl _ _).alloc (Nat.le_refl _) _
  have X0 : Ex.Box W1 w.heap.size x := by rw [hW1]; exact Ex.Box.new _ _ _
  have X0 := X0.below B2 (by omega)
  have Y0 : Ex.Box W2 (w.heap.size + 1) y := by rw [hW2, ← z1]; exact Ex.Box.new _ _ _
  have b0 := B1.trans (B2.mono (by omega))
  have ix := hx.below (b0.mono hB)
  have iy := hy.below (b0.mono hB)
  unfold Ex.val
  have X0q := X0
  obtain ⟨a0, a1, a2, a3, a4⟩ := X0q
  have Y0q := Y0
  obtain ⟨c0, c1, c2, c3, c4⟩ := Y0q
  go_enter Tryz.func28, Tryz.ntmps28
  go_wp2_with fail
  rw [← hW1, ← hW2]
  clear hW1 hW2 B1 B2 a0 a1 a2 a3 a4 c0 c1 c2 c3 c4
  refine (eqBdL_any x.A0 x.c0 x.l0 y.A0 y.c0 y.l0 B _ H0.out ix.a iy.a (by omega)).mono ?_
  rintro e v1 ⟨rfl, hb1⟩
  have y1 := hb1.size
  have X1 := X0.below hb1 (by omega)
  have Y1 := Y0.below hb1 (by omega)
  have b1 := b0.trans (hb1.mono (by omega))
  have ix := hx.below (b1.mono hB)
  have iy := hy.below (b1.mono hB)
  clear hb1 X0 Y0 b0
  have Xq := X1
  obtain ⟨a0, a1, a2, a3, a4⟩ := Xq
  have Yq := Y1
  obtain ⟨c0, c1, c2, c3, c4⟩ := Yq
  have la : w.heap.size < v1.heap.size := by omega
  have lb : w.heap.size + 1 < v1.heap.size := by omega
  go_wp2_with fail
  clear a0 a1 a2 a3 a4 c0 c1 c2 c3 c4 la lb
  refine (eqRuL_any x.A1 x.c1 x.l1 y.A1 y.c1 y.l1 B _ H1.out ix.b iy.b (by omega)).mono ?_
  rintro e v2 ⟨rfl, hb2⟩
  have y2 := hb2.size
  have X2 := X1.below hb2 (by omega)
  have Y2 := Y1.below hb2 (by omega)
  have b2 := b1.trans (hb2.mono (by omega))
  have ix := hx.below (b2.mono hB)
  have iy := hy.below (b2.mono hB)
  clear hb2 X1 Y1 b1
  have Xq := X2
  obtain ⟨a0, a1, a2, a3, a4⟩ := Xq
  have Yq := Y2
  obtain ⟨c0, c1, c2, c3, c4⟩ := Yq
  have la : w.heap.size < v2.heap.size := by omega
  have lb : w.heap.size + 1 < v2.heap.size := by omega
  go_wp2_with fail
  clear a0 a1 a2 a3 a4 c0 c1 c2 c3 c4 la lb
  go_ret
  exact ⟨rfl, b2⟩
end Go.Proofs.YtnldlbglgalbaabGreat
