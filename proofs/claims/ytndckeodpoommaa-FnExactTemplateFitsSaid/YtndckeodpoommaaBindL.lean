/-
  Lists of bindings: the laws' own functions.
-/
import Derived.Test.YtndckeodpoommaaBind
import Derived.Test.YtndckeodpoommaaTrees
import Derived.Deep.RegionHeld3
namespace Go.Proofs.Ytndckeodpoommaa
open Go.RowKit

namespace Bd
def erL (l : List Bd) : List Bd := l.map er
def bulkL : List Bd → Nat | [] => 0 | b :: r => 1 + bulk b + bulkL r
theorem erL_append (a b : List Bd) : erL (a ++ b) = erL a ++ erL b := by simp [erL]
theorem erL_length (a : List Bd) : (erL a).length = a.length := by simp [erL]
theorem bulkL_mem {l : List Bd} {b : Bd} (h : b ∈ l) : 1 + bulk b ≤ bulkL l := by
  induction l with
  | nil => cases h
  | cons e r ih =>
    simp only [bulkL]
    rcases List.mem_cons.1 h with rfl | h
    · omega
    · have := ih h; omega
theorem bulkL_len (l : List Bd) : l.length ≤ bulkL l := by
  induction l with
  | nil => simp
  | cons e r ih => simp only [bulkL, List.length_cons]; omega
theorem bulkL_append (a b : List Bd) : bulkL (a ++ b) = bulkL a + bulkL b := by
  induction a with
  | nil => simp [bulkL]
  | cons e r ih => simp only [List.cons_append, bulkL, ih]; omega
theorem bulkL_er (l : List Bd) : bulkL (erL l) = bulkL l := by
  induction l with
  | nil => rfl
  | cons e r ih => simp only [erL, List.map_cons, bulkL] at ih ⊢; rw [ih]; rfl
theorem erL_get {a b : List Bd} (h : erL a = erL b) {j : Nat} (ha : j < a.length) (hb : j < b.length) : er a[j] = er b[j] := by
  have h1 : (erL a)[j]? = (erL b)[j]? := by rw [h]
  simp only [erL, List.getElem?_map, List.getElem?_eq_getElem ha, List.getElem?_eq_getElem hb, Option.map_some, Option.some.injEq] at h1
  exact h1
/-- The cells of element i. -/
theorem at_ {w : World} {B : Nat} {A : Option Addr} {c : Nat} {l : List Bd} (h : E.LIn w B A c l) {i : Nat} {x : Bd} (hi : l[i]? = some x) :
    ∃ b o : Nat, A = some ⟨b, o, none⟩ ∧ b < B ∧ w.cell? ⟨b, o + i * 4, none⟩ = some (.string x.t) ∧ w.cell? ⟨b, o + i * 4 + 1, none⟩ = some (.slice x.sa x.s.length x.sc) ∧ w.cell? ⟨b, o + i * 4 + 2, none⟩ = some (.int .i64 x.k) ∧ w.cell? ⟨b, o + i * 4 + 3, none⟩ = some (.int .i64 x.n) ∧ In w B x := by
  obtain ⟨b, o, e, hb, hc, hx⟩ := h.at_ hi
  exact ⟨b, o, e, hb, hc 0 _ rfl, hc 1 _ rfl, hc 2 _ rfl, hc 3 _ rfl, hx⟩
end Bd

theorem infoB : (Try.prog.info? 178).map (fun i => (i.zero, i.size, i.bytes)) = some (some (.agg #[.string ⟨#[]⟩, .slice none 0 0, .int .i64 0, .int .i64 0]), 4, 56) := by kernel_rfl

/-- Returned: a list of bindings of the call's own. -/
def RetBL (x : List Bd) (w : World) (e : Ending) (w' : World) : Prop := ∃ (A : Option Addr) (c : Nat) (l : List Bd), e = .returned (.slice A l.length c) ∧ Bd.erL l = x ∧ Bd.E.LOwn w.heap.size w'.heap.size w' A c l ∧ Below w.heap.size w w'

set_option maxRecDepth 100000 in
set_option maxHeartbeats 1000000 in
theorem toBdL_any (A : Option Addr) (c : Nat) (l : List Bd) (B : Nat) (w : World) (hbk : Bd.bulkL l ≤ 2000000) (hin : Bd.E.LIn w B A c l) (hB : B ≤ w.heap.size) : Calls Try.prog 87 #[.slice A l.length c] w (RetBL (Bd.erL l) w) := by
  have hcap := hin.cap
  have hll := Bd.bulkL_len l
  obtain ⟨i0, hi0, hz0, hz1, hz2⟩ := info_parts infoB
  have hmk := fun W => run_make_rowN (P := Try.prog) 49 178 i0 _ Try.underlying49 hi0 hz0 .i64 .i64 l.length l.length (Nat.le_refl _) (by rw [hz2]; omega) (by omega) W
  rw [hz1] at hmk
  go_enter Try.func87, Try.ntmps87
  go_wp2_with fail
  go_loopw [4] (fun i wr => ∃ j : Nat, j ≤ l.length ∧ i = .int .i64 j ∧ ∃ ds : List Bd, Hid (Bd.erL ds = Bd.erL (l.take j)) ∧ ds.length ≤ j ∧ j ≤ ds.length ∧ Bd.E.Fill wr w.heap.size 178 l.length ds ∧ Below w.heap.size w wr) (fun i _ => l.length - (intOf i).toNat)
  case atStart => exact ⟨0, Nat.zero_le _, rfl, [], by simp [Bd.erL, Hid], Nat.le_refl _, Nat.le_refl _, Elem.Fill.new w _ (by rw [size_madeCells]; show l.length * 4 = 4 * l.length; omega), (Below.refl _ _).alloc (Nat.le_refl _) _⟩
  case round =>
    obtain ⟨j, hj, rfl, ds, HE, hd1, hd2, hF, hb⟩ := hrel
    by_cases hlt : j < l.length
    · obtain ⟨b, o, rfl, hblk, c0, c1, c2, c3, hix⟩ := Bd.at_ (hin.below (hb.mono hB)) (i := j) (x := l[j]) (List.getElem?_eq_getElem hlt)
      have hs2 := hb.size
      have hbk1 := Bd.bulkL_mem (l := l) (List.getElem_mem hlt)
      have hglt : w.heap.size < wr.heap.size := hF.row.lt
      have hs1 : l[j].s.length ≤ 2000000 := by unfold Bd.bulk at hbk1; omega
      go_wp2_with fail
      refine (toBd_any l[j] B _ hs1 hix (by omega)).mono ?_
      rintro e w1 ⟨d, rfl, hde, hod, hb1⟩
      have hrow1 := hF.row.below hb1 hglt
      have e4 : Bd.E.n = 4 := rfl
      obtain ⟨v0, hc0⟩ := hrow1.old (i := j * 4) (by rw [e4]; omega)
      obtain ⟨v1, hc1⟩ := hrow1.old (i := j * 4 + 1) (by rw [e4]; omega)
      obtain ⟨v2, hc2⟩ := hrow1.old (i := j * 4 + 2) (by rw [e4]; omega)
      obtain ⟨v3, hc3⟩ := hrow1.old (i := j * 4 + 3) (by rw [e4]; omega)
      have f0 := hrow1.frozen (j * 4)
      have f1 := hrow1.frozen (j * 4 + 1)
      have f2 := hrow1.frozen (j * 4 + 2)
      have f3 := hrow1.frozen (j * 4 + 3)
      have hst := hF.step hb1 hod (by omega)
      have ej : Bd.E.n * ds.length = j * 4 := by rw [e4]; omega
      rw [ej] at hst
      have Hst := Lib.hid hst
      have Hde := Lib.hid hde
      clear hde hst e4 ej hrow1
      simp only [Bd.val]
      go_wp2_with fail
      refine ⟨⟨j + 1, by omega, by go_num, ds ++ [d], ?_, by simp; omega, by simp; omega, Hst.out, ?_⟩, by simp [intOf]; omega⟩
      · show _ = _
        rw [List.take_succ_eq_append_getElem hlt, Bd.erL_append, Bd.erL_append, HE.out]
        simp [Bd.erL, Hde.out]
      · exact ((((hb.trans (hb1.mono (by omega))).setCell (by simp) _).setCell (by simp) _).setCell (by simp) _).setCell (by simp) _
    · have hj' : j = l.length := by omega
      have hj'' : ds.length = l.length := by omega
      subst hj'
      have hdone := hF.done hj'' (by omega)
      have HE' := HE.out
      rw [List.take_length] at HE'
      have HR := Lib.hid HE'
      have HL := Lib.hid hj''
      clear hj'' HE'
      go_wp2_with fail
      go_ret
      exact ⟨some ⟨w.heap.size, 0, none⟩, l.length, ds, ret_sl HL.out.symm, HR.out, hdone, hb⟩

set_option maxRecDepth 100000 in
set_option maxHeartbeats 1000000 in
theorem szBdL_any (A : Option Addr) (c : Nat) (l : List Bd) (B : Nat) (w : World) (left : Int) (hcap : l.length ≤ c ∧ c ≤ 9223372036854775807) (h0 : 0 ≤ left) (h1 : left ≤ 1048576) (hin : Bd.E.LIn w B A c l) (hB : B ≤ w.heap.size) :
    Calls Try.prog 84 #[.slice A l.length c, .int .i64 left] w fun e w' => e = .returned (.int .i64 (szR (Bd.bulkL l) left)) ∧ Below w.heap.size w w' := by
  have hll := Bd.bulkL_len l
  by_cases hq : (l.length : Int) ≤ left
  · have q1 : ¬ (left - (l.length : Int) < 0) := by omega
    go_enter Try.func84, Try.ntmps84
    go_wp2_with fail
    go_loopw [1, 5] (fun v i wr => ∃ j : Nat, j ≤ l.length ∧ i = .int .i64 j ∧ v = .int .i64 (left - l.length - (Bd.bulkL (l.take j) - j)) ∧ (Bd.bulkL (l.take j) : Int) - j ≤ left - l.length ∧ j ≤ Bd.bulkL (l.take j) ∧ Below w.heap.size w wr) (fun _ i _ => l.length - (intOf i).toNat)
    case atStart => exact ⟨0, Nat.zero_le _, rfl, by simp [Bd.bulkL], by simp [Bd.bulkL]; omega, by simp, Below.refl _ _⟩
    case round =>
      obtain ⟨j, hj, rfl, rfl, hle, hjb, hb⟩ := hrel
      have hs2 := hb.size
      by_cases hlt : j < l.length
      · obtain ⟨b, o, rfl, hblk, c0, c1, c2, c3, hix⟩ := Bd.at_ (hin.below (hb.mono hB)) (i := j) (x := l[j]) (List.getElem?_eq_getElem hlt)
        have hstep : Bd.bulkL (l.take (j + 1)) = Bd.bulkL (l.take j) + (1 + l[j].bulk) := by
          rw [List.take_succ_eq_append_getElem hlt, Bd.bulkL_append]; simp only [Bd.bulkL]; omega
        have htot : Bd.bulkL l = Bd.bulkL (l.take (j + 1)) + Bd.bulkL (l.drop (j + 1)) := by rw [← Bd.bulkL_append, List.take_append_drop]
        have hlen := Bd.bulkL_len (l.drop (j + 1))
        rw [List.length_drop] at hlen
        have HS := Lib.hid hstep
        have HT := Lib.hid htot
        clear hstep htot
        by_cases hr : (l[j].bulk : Int) ≤ left - l.length - (Bd.bulkL (l.take j) - j)
        · have q2 : ¬ (left - (l.length : Int) - ((Bd.bulkL (l.take j) : Int) - j) - (l[j].bulk : Int) < 0) := by omega
          go_wp2_with fail
          refine (szBd_any l[j] B _ _ (by omega) (by omega) hix (by omega)).mono ?_
          rintro e w1 ⟨rfl, hb1⟩
          rw [szR_yes hr]
          have hb2 := hb.trans (hb1.mono (by omega))
          clear hb1
          go_wp2_with fail
          refine ⟨⟨j + 1, by omega, by go_num, ?_, by have := HS.out; omega, by have := HS.out; omega, hb2⟩, by simp [intOf]; omega⟩
          have := HS.out
          congr 1
          omega
        · have HF : Hid (szR (Bd.bulkL l) left = -1) := szR_no (by have := HS.out; have := HT.out; omega)
          go_wp2_with fail
          refine (szBd_any l[j] B _ _ (by omega) (by omega) hix (by omega)).mono ?_
          rintro e w1 ⟨rfl, hb1⟩
          rw [szR_no (by omega)]
          have hb2 := hb.trans (hb1.mono (by omega))
          clear hb1
          go_wp2_with fail
          go_ret
          exact ⟨ret_int HF.out.symm, hb2⟩
      · have hj' : j = l.length := by omega
        subst hj'
        rw [List.take_length] at hle
        have HF : Hid (szR (Bd.bulkL l) left = left - Bd.bulkL l) := szR_yes (by omega)
        go_wp2_with fail
        go_ret
        refine ⟨ret_int ?_, hb⟩
        rw [HF.out, List.take_length]; omega
  · have q1 : left - (l.length : Int) < 0 := by omega
    have HF : Hid (szR (Bd.bulkL l) left = -1) := szR_no (by omega)
    go_enter Try.func84, Try.ntmps84
    go_wp2_with fail
    go_ret
    exact ⟨ret_int HF.out.symm, Below.refl _ _⟩

set_option maxRecDepth 100000 in
set_option maxHeartbeats 1000000 in
theorem eqBdL_any (A : Option Addr) (c : Nat) (l : List Bd) (A' : Option Addr) (c' : Nat) (l' : List Bd) (B : Nat) (w : World) (he : Bd.erL l = Bd.erL l') (hin : Bd.E.LIn w B A c l) (hin' : Bd.E.LIn w B A' c' l') (hB : B ≤ w.heap.size) :
    Calls Try.prog 90 #[.slice A l.length c, .slice A' l'.length c'] w fun e w' => e = .returned (.bool true) ∧ Below w.heap.size w w' := by
  have hcap := hin.cap
  have hcap' := hin'.cap
  have hlen : l.length = l'.length := by rw [← Bd.erL_length l, he, Bd.erL_length]
  have hn1 : ((l.length : Int) != (l'.length : Int)) = false := by simp [hlen]
  have hlen1 : l'.length ≤ l.length := by omega
  have hlen2 : l.length ≤ l'.length := by omega
  clear hlen
  have HE := Lib.hid he
  clear he
  go_enter Try.func90, Try.ntmps90
  go_wp2_with fail
  go_loopw [5] (fun i wr => ∃ j : Nat, j ≤ l.length ∧ i = .int .i64 j ∧ Below w.heap.size w wr) (fun i _ => l.length - (intOf i).toNat)
  case atStart => exact ⟨0, Nat.zero_le _, rfl, Below.refl _ _⟩
  case round =>
    obtain ⟨j, hj, rfl, hb⟩ := hrel
    by_cases hlt : j < l.length
    · have hlt' : j < l'.length := by omega
      have hs2 := hb.size
      obtain ⟨b, o, rfl, hblk, c0, c1, c2, c3, hix⟩ := Bd.at_ (hin.below (hb.mono hB)) (i := j) (x := l[j]) (List.getElem?_eq_getElem hlt)
      obtain ⟨b', o', rfl, hblk', d0, d1, d2, d3, hix'⟩ := Bd.at_ (hin'.below (hb.mono hB)) (i := j) (x := l'[j]) (List.getElem?_eq_getElem hlt')
      have g2 : (j : Int) < (l.length : Int) := by omega
      have g3 : (j : Int) < (l'.length : Int) := by omega
      have heq := Bd.erL_get HE.out hlt hlt'
      have Heq := Lib.hid heq
      clear heq
      have lc : b < wr.heap.size := by omega
      have ld : b' < wr.heap.size := by omega
      go_wp2_with fail
      first
      | go_region_held3 (fun w' => w'.cell? ⟨b, o + j * 4, none⟩ = some (.string l[j].t) ∧ w'.cell? ⟨b, o + j * 4 + 1, none⟩ = some (.slice l[j].sa l[j].s.length l[j].sc) ∧ w'.cell? ⟨b, o + j * 4 + 2, none⟩ = some (.int .i64 l[j].k) ∧ w'.cell? ⟨b, o + j * 4 + 3, none⟩ = some (.int .i64 l[j].n) ∧ w'.cell? ⟨b', o' + j * 4, none⟩ = some (.string l'[j].t) ∧ w'.cell? ⟨b', o' + j * 4 + 1, none⟩ = some (.slice l'[j].sa l'[j].s.length l'[j].sc) ∧ w'.cell? ⟨b', o' + j * 4 + 2, none⟩ = some (.int .i64 l'[j].k) ∧ w'.cell? ⟨b', o' + j * 4 + 3, none⟩ = some (.int .i64 l'[j].n)) (go_keep)
          ((go_at_call 125; refine (eqBd_any l[j] l'[j] B _ Heq.out ?_ ?_ ?_).mono ?_; exact hix.drew; exact hix'.drew; (show B ≤ wr.heap.size); omega; rintro e w1 ⟨rfl, hb1⟩; have hb1 : Below wr.heap.size wr w1 := below_undrew hb1; have c0' := (hb1.cell (p := ⟨b, o + j * 4, none⟩) lc).trans c0; have c1' := (hb1.cell (p := ⟨b, o + j * 4 + 1, none⟩) lc).trans c1; have c2' := (hb1.cell (p := ⟨b, o + j * 4 + 2, none⟩) lc).trans c2; have c3' := (hb1.cell (p := ⟨b, o + j * 4 + 3, none⟩) lc).trans c3; have d0' := (hb1.cell (p := ⟨b', o' + j * 4, none⟩) ld).trans d0; have d1' := (hb1.cell (p := ⟨b', o' + j * 4 + 1, none⟩) ld).trans d1; have d2' := (hb1.cell (p := ⟨b', o' + j * 4 + 2, none⟩) ld).trans d2; have d3' := (hb1.cell (p := ⟨b', o' + j * 4 + 3, none⟩) ld).trans d3))
      | fail
      all_goals go_wp2_with fail
      all_goals refine ⟨⟨j + 1, by omega, by go_num, hb.trans (hb1.mono (by omega))⟩, by simp [intOf]; omega⟩
    · have hj' : j = l.length := by omega
      subst hj'
      go_wp2_with fail
      go_ret
      exact ⟨rfl, hb⟩
end Go.Proofs.Ytndckeodpoommaa
