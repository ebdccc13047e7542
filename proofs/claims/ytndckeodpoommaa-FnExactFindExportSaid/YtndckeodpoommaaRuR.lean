/-
  Rows of records of rules: where they lie; the laws' own functions on them; EqualRules over rows (written by gen/rulr.py).
-/
import Derived.Test.YtndckeodpoommaaRulE
import Derived.Test.YtndckeodpoommaaElem
import Derived.Test.YtndckeodpoommaaEqBd
import Derived.Deep.RegionHeld3
namespace Go.Proofs.Ytndckeodpoommaa
open Go.RowKit

namespace Ru
def cells (x : Ru) : List Value := [.slice x.A0 x.l0.length x.c0, .slice x.A1 x.l1.length x.c1, .slice x.A2 x.l2.length x.c2]
def blks (x : Ru) : List Nat := S.blks (S.itm x.A0 x.c0 x.l0) ++ (S.blks (S.itm x.A1 x.c1 x.l1) ++ S.blks (S.itm x.A2 x.c2 x.l2))
theorem In.blk_lt {w : World} {B : Nat} {x : Ru} (h : In w B x) : ∀ k ∈ blks x, k < B := by
  intro k hk
  rcases List.mem_append.1 hk with hk | hk
  · exact h.a.blk_lt k hk
  · rcases List.mem_append.1 hk with hk | hk
    · exact h.b.blk_lt k hk
    · exact h.c.blk_lt k hk
theorem In.keepB {w w' : World} {B : Nat} {x : Ru} (h : In w B x) (hk : ∀ k, k ∈ blks x → w'.heap[k]? = w.heap[k]?) : In w' B x :=
  ⟨h.a.keepB fun k m => hk k (List.mem_append.2 (.inl m)), h.b.keepB fun k m => hk k (List.mem_append.2 (.inr (List.mem_append.2 (.inl m)))), h.c.keepB fun k m => hk k (List.mem_append.2 (.inr (List.mem_append.2 (.inr m))))⟩
def E : Elem Ru where
  cells := cells
  n := 3
  pos := by decide
  len := fun _ => rfl
  one := by
    intro b u hu
    simp only [cells, List.mem_cons, List.not_mem_nil, or_false] at hu
    rcases hu with rfl | rfl | rfl <;> rfl
  In := In
  blks := blks
  lt := fun h => h.blk_lt
  keepB := fun h hk => h.keepB hk
  more := fun h hB => h.more hB
theorem Own.e {lo hi : Nat} {w : World} {x : Ru} (h : Own lo hi w x) : E.Own lo hi w x := by
  refine ⟨h.inn, ?_, ?_, ?_⟩
  · intro k hk
    rcases List.mem_append.1 hk with hk | hk
    · exact h.a.lo_ k hk
    · rcases List.mem_append.1 hk with hk | hk
      · exact h.b.lo_ k hk
      · exact h.c.lo_ k hk
  · show (blks x).Nodup
    refine List.nodup_append.2 ⟨h.a.nd, List.nodup_append.2 ⟨h.b.nd, h.c.nd, ?_⟩, ?_⟩
    · rintro k h1 q h2 rfl
      exact h.bc k h1 h2
    · rintro k h1 q h2 rfl
      rcases List.mem_append.1 h2 with h2 | h2
      · exact h.ab k h1 h2
      · exact h.ac k h1 h2
  · intro k hk
    rcases List.mem_append.1 hk with hk | hk
    · exact h.a.fr k hk
    · rcases List.mem_append.1 hk with hk | hk
      · exact h.b.fr k hk
      · exact h.c.fr k hk
def erR (l : List Ru) : List (List S × List S × List S) := l.map er
def bulkR : List Ru → Nat | [] => 0 | b :: r => 1 + bulk b + bulkR r
theorem erR_append (a b : List Ru) : erR (a ++ b) = erR a ++ erR b := by simp [erR]
theorem erR_length (a : List Ru) : (erR a).length = a.length := by simp [erR]
theorem bulkR_mem {l : List Ru} {b : Ru} (h : b ∈ l) : 1 + bulk b ≤ bulkR l := by
  induction l with
  | nil => cases h
  | cons e r ih =>
    simp only [bulkR]
    rcases List.mem_cons.1 h with rfl | h
    · omega
    · have := ih h; omega
theorem bulkR_len (l : List Ru) : l.length ≤ bulkR l := by
  induction l with
  | nil => simp
  | cons e r ih => simp only [bulkR, List.length_cons]; omega
theorem bulkR_append (a b : List Ru) : bulkR (a ++ b) = bulkR a + bulkR b := by
  induction a with
  | nil => simp [bulkR]
  | cons e r ih => simp only [List.cons_append, bulkR, ih]; omega
theorem erR_get {a b : List Ru} (h : erR a = erR b) {j : Nat} (ha : j < a.length) (hb : j < b.length) : er a[j] = er b[j] := by
  have h1 : (erR a)[j]? = (erR b)[j]? := by rw [h]
  simp only [erR, List.getElem?_map, List.getElem?_eq_getElem ha, List.getElem?_eq_getElem hb, Option.map_some, Option.some.injEq] at h1
  exact h1
/-- The cells of element i. -/
theorem at_ {w : World} {B : Nat} {A : Option Addr} {c : Nat} {l : List Ru} (h : E.LIn w B A c l) {i : Nat} {x : Ru} (hi : l[i]? = some x) :
    ∃ b o : Nat, A = some ⟨b, o, none⟩ ∧ b < B ∧ w.cell? ⟨b, o + i * 3, none⟩ = some (.slice x.A0 x.l0.length x.c0) ∧ w.cell? ⟨b, o + i * 3 + 1, none⟩ = some (.slice x.A1 x.l1.length x.c1) ∧ w.cell? ⟨b, o + i * 3 + 2, none⟩ = some (.slice x.A2 x.l2.length x.c2) ∧ In w B x := by
  have e3 : E.n = 3 := rfl
  obtain ⟨b, o, e, hb, hc, hx⟩ := h.at_ hi
  exact ⟨b, o, e, hb, hc 0 _ rfl, hc 1 _ rfl, hc 2 _ rfl, hx⟩
def eqR : List Ru → List Ru → Bool | [], [] => true | [], _ :: _ => false | _ :: _, [] => false | a :: r, b :: s => eqB a b && eqR r s
theorem eqR_er : ∀ {a b a2 b2 : List Ru}, erR a = erR a2 → erR b = erR b2 → eqR a b = eqR a2 b2
  | [], b, [], b2, _, h2 => by cases b <;> cases b2 <;> simp [erR] at h2 <;> rfl
  | [], _, _ :: _, _, h1, _ => by simp [erR] at h1
  | _ :: _, _, [], _, h1, _ => by simp [erR] at h1
  | x :: r, [], x2 :: r2, [], _, _ => rfl
  | x :: r, [], x2 :: r2, _ :: _, _, h2 => by simp [erR] at h2
  | x :: r, _ :: _, x2 :: r2, [], _, h2 => by simp [erR] at h2
  | x :: r, y :: s, x2 :: r2, y2 :: s2, h1, h2 => by
    have a1 : er x = er x2 ∧ erR r = erR r2 := by simpa [erR] using h1
    have a2 : er y = er y2 ∧ erR s = erR s2 := by simpa [erR] using h2
    simp only [eqR, eqB_er a1.1 a2.1, eqR_er a1.2 a2.2]
theorem eqR_length : ∀ (l l' : List Ru), l.length ≠ l'.length → eqR l l' = false
  | [], [], h => absurd rfl h
  | [], _ :: _, _ => rfl
  | _ :: _, [], _ => rfl
  | a :: r, b :: s, h => by simp only [eqR, eqR_length r s (by simpa using h), Bool.and_false]
theorem eqR_append : ∀ (a b c d : List Ru), a.length = c.length → eqR (a ++ b) (c ++ d) = (eqR a c && eqR b d)
  | [], b, [], d, _ => by simp [eqR]
  | [], _, _ :: _, _, h => by simp at h
  | _ :: _, _, [], _, h => by simp at h
  | x :: r, b, y :: s, d, h => by simp only [List.cons_append, eqR, eqR_append r b s d (by simpa using h), Bool.and_assoc]
theorem eqR_step {l l' : List Ru} {j : Nat} (h : j < l.length) (h' : j < l'.length) : eqR (l.take (j + 1)) (l'.take (j + 1)) = (eqR (l.take j) (l'.take j) && eqB l[j] l'[j]) := by
  rw [List.take_succ_eq_append_getElem h, List.take_succ_eq_append_getElem h', eqR_append _ _ _ _ (by simp; omega)]
  simp [eqR]
theorem eqR_no {l l' : List Ru} {j : Nat} (h : j < l.length) (h' : j < l'.length) (he : eqB l[j] l'[j] = false) : eqR l l' = false := by
  have e1 := List.take_append_drop (j + 1) l
  have e2 := List.take_append_drop (j + 1) l'
  rw [← e1, ← e2, eqR_append _ _ _ _ (by simp; omega), eqR_step h h', he]
  simp
end Ru

theorem infoR : (Try.prog.info? 181).map (fun i => (i.zero, i.size, i.bytes)) = some (some (.agg #[.slice none 0 0, .slice none 0 0, .slice none 0 0]), 3, 72) := by kernel_rfl

/-- Returned: a row of rules of the call's own. -/
def RetRR (x : List (List S × List S × List S)) (w : World) (e : Ending) (w' : World) : Prop := ∃ (A : Option Addr) (c : Nat) (l : List Ru), e = .returned (.slice A l.length c) ∧ Ru.erR l = x ∧ Ru.E.LOwn w.heap.size w'.heap.size w' A c l ∧ Below w.heap.size w w'

set_option maxRecDepth 100000 in
set_option maxHeartbeats 1000000 in
theorem toRuL_any (A : Option Addr) (c : Nat) (l : List Ru) (B : Nat) (w : World) (hbk : Ru.bulkR l ≤ 2000000) (hin : Ru.E.LIn w B A c l) (hB : B ≤ w.heap.size) : Calls Try.prog 88 #[.slice A l.length c] w (RetRR (Ru.erR l) w) := by
  have hcap := hin.cap
  have hll := Ru.bulkR_len l
  obtain ⟨i0, hi0, hz0, hz1, hz2⟩ := info_parts infoR
  have hmk := fun W => run_make_rowN (P := Try.prog) 50 181 i0 _ Try.underlying50 hi0 hz0 .i64 .i64 l.length l.length (Nat.le_refl _) (by rw [hz2]; omega) (by omega) W
  rw [hz1] at hmk
  go_enter Try.func88, Try.ntmps88
  go_wp2_with fail
  go_loopw [4] (fun i wr => ∃ j : Nat, j ≤ l.length ∧ i = .int .i64 j ∧ ∃ ds : List Ru, Hid (Ru.erR ds = Ru.erR (l.take j)) ∧ ds.length ≤ j ∧ j ≤ ds.length ∧ Ru.E.Fill wr w.heap.size 181 l.length ds ∧ Below w.heap.size w wr) (fun i _ => l.length - (intOf i).toNat)
  case atStart => exact ⟨0, Nat.zero_le _, rfl, [], by simp [Ru.erR, Hid], Nat.le_refl _, Nat.le_refl _, Elem.Fill.new w _ (by rw [size_madeCells]; show l.length * 3 = 3 * l.length; omega), (Below.refl _ _).alloc (Nat.le_refl _) _⟩
  case round =>
    obtain ⟨j, hj, rfl, ds, HE, hd1, hd2, hF, hb⟩ := hrel
    by_cases hlt : j < l.length
    · obtain ⟨b, o, rfl, hblk, c0, c1, c2, hix⟩ := Ru.at_ (hin.below (hb.mono hB)) (i := j) (x := l[j]) (List.getElem?_eq_getElem hlt)
      have hs2 := hb.size
      have hbk1 := Ru.bulkR_mem (l := l) (List.getElem_mem hlt)
      have hglt : w.heap.size < wr.heap.size := hF.row.lt
      have hs1 : l[j].bulk ≤ 2000000 := by omega
      go_wp2_with fail
      refine (toRu_any l[j] B _ hs1 hix (by omega)).mono ?_
      rintro e w1 ⟨d, rfl, hde, hodr, hb1⟩
      have hod := hodr.e
      clear hodr
      have hrow1 := hF.row.below hb1 hglt
      have e4 : Ru.E.n = 3 := rfl
      obtain ⟨v0, hc0⟩ := hrow1.old (i := j * 3) (by rw [e4]; omega)
      obtain ⟨v1, hc1⟩ := hrow1.old (i := j * 3 + 1) (by rw [e4]; omega)
      obtain ⟨v2, hc2⟩ := hrow1.old (i := j * 3 + 2) (by rw [e4]; omega)
      have f0 := hrow1.frozen (j * 3)
      have f1 := hrow1.frozen (j * 3 + 1)
      have f2 := hrow1.frozen (j * 3 + 2)
      have hst := hF.step hb1 hod (by omega)
      have ej : Ru.E.n * ds.length = j * 3 := by rw [e4]; omega
      rw [ej] at hst
      have Hst := Lib.hid hst
      have Hde := Lib.hid hde
      clear hde hst e4 ej hrow1
      simp only [Ru.val]
      go_wp2_with fail
      refine ⟨⟨j + 1, by omega, by go_num, ds ++ [d], ?_, by simp; omega, by simp; omega, Hst.out, ?_⟩, by simp [intOf]; omega⟩
      · show _ = _
        rw [List.take_succ_eq_append_getElem hlt, Ru.erR_append, Ru.erR_append, HE.out]
        simp [Ru.erR, Hde.out]
      · exact (((hb.trans (hb1.mono (by omega))).setCell (by simp) _).setCell (by simp) _).setCell (by simp) _
    · have hj' : j = l.length := by omega
      have hj'' : ds.length = l.length := by omega
      subst hj'
      have hdone := hF.done hj'' (by omega)
      have HE' := HE.out
      rw [List.take_length] at HE'
      have HR := Lib.hid HE'
      have HL := Lib.hid hj''
      clear hj'' HE'
      go_wp2_with fail
      go_ret
      exact ⟨some ⟨w.heap.size, 0, none⟩, l.length, ds, ret_sl HL.out.symm, HR.out, hdone, hb⟩

set_option maxRecDepth 100000 in
set_option maxHeartbeats 1000000 in
theorem szRuL_any (A : Option Addr) (c : Nat) (l : List Ru) (B : Nat) (w : World) (left : Int) (hcap : l.length ≤ c ∧ c ≤ 9223372036854775807) (h0 : 0 ≤ left) (h1 : left ≤ 1048576) (hin : Ru.E.LIn w B A c l) (hB : B ≤ w.heap.size) :
    Calls Try.prog 85 #[.slice A l.length c, .int .i64 left] w fun e w' => e = .returned (.int .i64 (szR (Ru.bulkR l) left)) ∧ Below w.heap.size w w' := by
  have hll := Ru.bulkR_len l
  by_cases hq : (l.length : Int) ≤ left
  · have q1 : ¬ (left - (l.length : Int) < 0) := by omega
    go_enter Try.func85, Try.ntmps85
    go_wp2_with fail
    go_loopw [1, 5] (fun v i wr => ∃ j : Nat, j ≤ l.length ∧ i = .int .i64 j ∧ v = .int .i64 (left - l.length - (Ru.bulkR (l.take j) - j)) ∧ (Ru.bulkR (l.take j) : Int) - j ≤ left - l.length ∧ j ≤ Ru.bulkR (l.take j) ∧ Below w.heap.size w wr) (fun _ i _ => l.length - (intOf i).toNat)
    case atStart => exact ⟨0, Nat.zero_le _, rfl, by simp [Ru.bulkR], by simp [Ru.bulkR]; omega, by simp, Below.refl _ _⟩
    case round =>
      obtain ⟨j, hj, rfl, rfl, hle, hjb, hb⟩ := hrel
      have hs2 := hb.size
      by_cases hlt : j < l.length
      · obtain ⟨b, o, rfl, hblk, c0, c1, c2, hix⟩ := Ru.at_ (hin.below (hb.mono hB)) (i := j) (x := l[j]) (List.getElem?_eq_getElem hlt)
        have hstep : Ru.bulkR (l.take (j + 1)) = Ru.bulkR (l.take j) + (1 + l[j].bulk) := by
          rw [List.take_succ_eq_append_getElem hlt, Ru.bulkR_append]; simp only [Ru.bulkR]; omega
        have htot : Ru.bulkR l = Ru.bulkR (l.take (j + 1)) + Ru.bulkR (l.drop (j + 1)) := by rw [← Ru.bulkR_append, List.take_append_drop]
        have hlen := Ru.bulkR_len (l.drop (j + 1))
        rw [List.length_drop] at hlen
        have HS := Lib.hid hstep
        have HT := Lib.hid htot
        clear hstep htot
        by_cases hr : (l[j].bulk : Int) ≤ left - l.length - (Ru.bulkR (l.take j) - j)
        · have q2 : ¬ (left - (l.length : Int) - ((Ru.bulkR (l.take j) : Int) - j) - (l[j].bulk : Int) < 0) := by omega
          go_wp2_with fail
          refine (szRu_any l[j] B _ _ (by omega) (by omega) hix (by omega)).mono ?_
          rintro e w1 ⟨rfl, hb1⟩
          rw [szR_yes hr]
          have hb2 := hb.trans (hb1.mono (by omega))
          clear hb1
          go_wp2_with fail
          refine ⟨⟨j + 1, by omega, by go_num, ?_, by have := HS.out; omega, by have := HS.out; omega, hb2⟩, by simp [intOf]; omega⟩
          have := HS.out
          congr 1
          omega
        · have HF : Hid (szR (Ru.bulkR l) left = -1) := szR_no (by have := HS.out; have := HT.out; omega)
          go_wp2_with fail
          refine (szRu_any l[j] B _ _ (by omega) (by omega) hix (by omega)).mono ?_
          rintro e w1 ⟨rfl, hb1⟩
          rw [szR_no (by omega)]
          have hb2 := hb.trans (hb1.mono (by omega))
          clear hb1
          go_wp2_with fail
          go_ret
          exact ⟨ret_int HF.out.symm, hb2⟩
      · have hj' : j = l.length := by omega
        subst hj'
        rw [List.take_length] at hle
        have HF : Hid (szR (Ru.bulkR l) left = left - Ru.bulkR l) := szR_yes (by omega)
        go_wp2_with fail
        go_ret
        refine ⟨ret_int ?_, hb⟩
        rw [HF.out, List.take_length]; omega
  · have q1 : left - (l.length : Int) < 0 := by omega
    have HF : Hid (szR (Ru.bulkR l) left = -1) := szR_no (by omega)
    go_enter Try.func85, Try.ntmps85
    go_wp2_with fail
    go_ret
    exact ⟨ret_int HF.out.symm, Below.refl _ _⟩

set_option maxRecDepth 100000 in
set_option maxHeartbeats 1000000 in
theorem eqRuL_any (A : Option Addr) (c : Nat) (l : List Ru) (A' : Option Addr) (c' : Nat) (l' : List Ru) (B : Nat) (w : World) (he : Ru.erR l = Ru.erR l') (hin : Ru.E.LIn w B A c l) (hin' : Ru.E.LIn w B A' c' l') (hB : B ≤ w.heap.size) :
    Calls Try.prog 91 #[.slice A l.length c, .slice A' l'.length c'] w fun e w' => e = .returned (.bool true) ∧ Below w.heap.size w w' := by
  have hcap := hin.cap
  have hcap' := hin'.cap
  have hlen : l.length = l'.length := by rw [← Ru.erR_length l, he, Ru.erR_length]
  have hn1 : ((l.length : Int) != (l'.length : Int)) = false := by simp [hlen]
  have hlen1 : l'.length ≤ l.length := by omega
  have hlen2 : l.length ≤ l'.length := by omega
  clear hlen
  have HE := Lib.hid he
  clear he
  go_enter Try.func91, Try.ntmps91
  go_wp2_with fail
  go_loopw [5] (fun i wr => ∃ j : Nat, j ≤ l.length ∧ i = .int .i64 j ∧ Below w.heap.size w wr) (fun i _ => l.length - (intOf i).toNat)
  case atStart => exact ⟨0, Nat.zero_le _, rfl, Below.refl _ _⟩
  case round =>
    obtain ⟨j, hj, rfl, hb⟩ := hrel
    by_cases hlt : j < l.length
    · have hlt' : j < l'.length := by omega
      have hs2 := hb.size
      obtain ⟨b, o, rfl, hblk, c0, c1, c2, hix⟩ := Ru.at_ (hin.below (hb.mono hB)) (i := j) (x := l[j]) (List.getElem?_eq_getElem hlt)
      obtain ⟨b', o', rfl, hblk', d0, d1, d2, hix'⟩ := Ru.at_ (hin'.below (hb.mono hB)) (i := j) (x := l'[j]) (List.getElem?_eq_getElem hlt')
      have g2 : (j : Int) < (l.length : Int) := by omega
      have g3 : (j : Int) < (l'.length : Int) := by omega
      have heq := Ru.erR_get HE.out hlt hlt'
      have Heq := Lib.hid heq
      clear heq
      have lc : b < wr.heap.size := by omega
      have ld : b' < wr.heap.size := by omega
      go_wp2_with fail
      first
      | go_region_held3 (fun w' => w'.cell? ⟨b, o + j * 3, none⟩ = some (.slice l[j].A0 l[j].l0.length l[j].c0) ∧ w'.cell? ⟨b, o + j * 3 + 1, none⟩ = some (.slice l[j].A1 l[j].l1.length l[j].c1) ∧ w'.cell? ⟨b, o + j * 3 + 2, none⟩ = some (.slice l[j].A2 l[j].l2.length l[j].c2) ∧ w'.cell? ⟨b', o' + j * 3, none⟩ = some (.slice l'[j].A0 l'[j].l0.length l'[j].c0) ∧ w'.cell? ⟨b', o' + j * 3 + 1, none⟩ = some (.slice l'[j].A1 l'[j].l1.length l'[j].c1) ∧ w'.cell? ⟨b', o' + j * 3 + 2, none⟩ = some (.slice l'[j].A2 l'[j].l2.length l'[j].c2)) (go_keep)
          ((go_at_call 126; refine (eqRu_any l[j] l'[j] B _ Heq.out ?_ ?_ ?_).mono ?_; exact hix.drew; exact hix'.drew; (show B ≤ wr.heap.size); omega; rintro e w1 ⟨rfl, hb1⟩; have hb1 : Below wr.heap.size wr w1 := below_undrew hb1; have c0' := (hb1.cell (p := ⟨b, o + j * 3, none⟩) lc).trans c0; have c1' := (hb1.cell (p := ⟨b, o + j * 3 + 1, none⟩) lc).trans c1; have c2' := (hb1.cell (p := ⟨b, o + j * 3 + 2, none⟩) lc).trans c2; have d0' := (hb1.cell (p := ⟨b', o' + j * 3, none⟩) ld).trans d0; have d1' := (hb1.cell (p := ⟨b', o' + j * 3 + 1, none⟩) ld).trans d1; have d2' := (hb1.cell (p := ⟨b', o' + j * 3 + 2, none⟩) ld).trans d2))
      | fail
      all_goals go_wp2_with fail
      all_goals refine ⟨⟨j + 1, by omega, by go_num, hb.trans (hb1.mono (by omega))⟩, by simp [intOf]; omega⟩
    · have hj' : j = l.length := by omega
      subst hj'
      go_wp2_with fail
      go_ret
      exact ⟨rfl, hb⟩
end Go.Proofs.Ytndckeodpoommaa
