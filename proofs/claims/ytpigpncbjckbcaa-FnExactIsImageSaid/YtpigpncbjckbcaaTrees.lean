/-
  The laws' own functions on data: sizes.
-/
import Derived.Test.YtpigpncbjckbcaaBase
import Derived.Test.YtpigpncbjckbcaaProg
import Derived.Handy
import Derived.WalkSpells
import Derived.Laws.MakeOwn
import Derived.Deep.RegionHeld3
import Derived.Test.YtpigpncbjckbcaaMarks
namespace Go.Proofs.Ytpigpncbjckbcaa
open Go.RowKit

/-- What is left behind a datum of this bulk. -/
def szR (b : Nat) (left : Int) : Int := if (b : Int) ≤ left then left - b else -1
theorem szR_yes {b : Nat} {left : Int} (h : (b : Int) ≤ left) : szR b left = left - b := if_pos h
theorem szR_no {b : Nat} {left : Int} (h : ¬ (b : Int) ≤ left) : szR b left = -1 := if_neg h

def SzOk (m : Nat) : Prop := ∀ (d : D) (B : Nat) (w : World) (left : Int), d.size ≤ m → 0 ≤ left → left ≤ 1048576 → d.In w B → B ≤ w.heap.size →
    Calls Try.prog 86 #[d.val, .int .i64 left] w fun e w' => e = .returned (.int .i64 (szR d.bulk left)) ∧ Below w.heap.size w w'
def SzLOk (m : Nat) : Prop := ∀ (k n : Int) (t : ByteArray) (A : Option Addr) (c : Nat) (l : List D) (B : Nat) (w : World) (left : Int), D.sizeL l ≤ m → 0 ≤ left → left ≤ 1048576 → (D.mk k n t A c l).In w B → B ≤ w.heap.size →
    Calls Try.prog 92 #[.slice A l.length c, .int .i64 left] w fun e w' => e = .returned (.int .i64 (szR (D.bulkL l) left)) ∧ Below w.heap.size w w'

theorem bulkL_take_le (l : List D) (j : Nat) : D.bulkL (l.take j) + (l.length - j) ≤ D.bulkL l := by
  have h := D.bulkL_append (l.take j) (l.drop j)
  rw [List.take_append_drop] at h
  have h2 : ∀ r : List D, r.length ≤ D.bulkL r := fun r => by
    induction r with
    | nil => simp
    | cons d r ih => simp [D.bulkL]; omega
  have := h2 (l.drop j)
  rw [List.length_drop] at this
  omega
theorem bulkL_take_succ (l : List D) (j : Nat) (h : j < l.length) : D.bulkL (l.take (j + 1)) = D.bulkL (l.take j) + 1 + l[j].bulk := by
  rw [List.take_succ_eq_append_getElem h, D.bulkL_append]; simp [D.bulkL]; omega
theorem sizeL_get_le (l : List D) (j : Nat) (h : j < l.length) : l[j].size ≤ D.sizeL l := D.sizeL_mem (List.getElem_mem h)

set_option maxHeartbeats 400000 in
theorem szL_step (m : Nat) (ih : SzOk m) : SzLOk m := by
  intro k n t A c l B w left hm h0 hl hin hB
  have hcap := hin.cap
  simp only [D.l, D.c, D.t] at hcap
  by_cases hfit : (l.length : Int) ≤ left
  · have hn : ¬ (left - (l.length : Int) < 0) := by omega
    have hb0 := bulkL_take_le l 0
    go_enter Try.func92, Try.ntmps92
    go_wp2_with fail
    go_loopw [1, 5] (fun lf i wr => ∃ j : Nat, j ≤ l.length ∧ i = .int .i64 j ∧ (D.bulkL (l.take j) : Int) + (l.length - j : Nat) ≤ left ∧ lf = .int .i64 (left - D.bulkL (l.take j) - (l.length - j : Nat)) ∧ Below w.heap.size w wr) (fun _ i _ => l.length - (intOf i).toNat)
    case atStart => exact ⟨0, Nat.zero_le _, rfl, by simp [D.bulkL]; omega, by simp [D.bulkL], Below.refl _ _⟩
    case round =>
      obtain ⟨j, hj, rfl, hf, rfl, hb⟩ := hrel
      by_cases hlt : j < l.length
      · obtain ⟨b, o, rfl, hblk, c0, c1, c2, c3, hix⟩ := (hin.below (hb.mono hB)).at_ (i := j) (x := l[j]) (List.getElem?_eq_getElem hlt)
        have hs2 := hb.size
        have hsz := sizeL_get_le l j hlt
        have HS : Hid (D.bulkL (l.take (j + 1)) = D.bulkL (l.take j) + 1 + l[j].bulk) := bulkL_take_succ l j hlt
        have hle := bulkL_take_le l (j + 1)
        rw [HS.out] at hle
        go_wp2_with fail
        refine (ih l[j] B _ _ (by omega) (by omega) (by omega) hix (by omega)).mono ?_
        rintro e w1 ⟨rfl, hb1⟩
        by_cases hy : (l[j].bulk : Int) ≤ left - D.bulkL (l.take j) - (l.length - j : Nat)
        · rw [szR_yes hy]
          have hy2 : ¬ (left - (D.bulkL (l.take j) : Int) - (l.length - j : Nat) - (l[j].bulk : Int) < 0) := by omega
          go_wp2_with fail
          go_roundw
          case rel => exact ⟨j + 1, by omega, by go_num, by rw [HS.out]; omega, by rw [HS.out]; go_num, hb.trans (hb1.mono (by omega))⟩
          case measure => simp [intOf]; omega
        · rw [szR_no hy]
          go_wp2_with fail
          go_ret
          exact ⟨ret_int (by rw [szR_no (by omega)]), hb.trans (hb1.mono (by omega))⟩
      · have hj' : j = l.length := by omega
        subst hj'
        go_wp2_with fail
        go_ret
        rw [List.take_length] at *
        exact ⟨ret_int (by rw [szR_yes (by omega)]; omega), hb⟩
  · have hn : left - (l.length : Int) < 0 := by omega
    go_enter Try.func92, Try.ntmps92
    go_wp2_with fail
    go_ret
    have := bulkL_take_le l 0
    exact ⟨ret_int (by rw [szR_no (by omega)]), Below.refl _ _⟩

set_option maxHeartbeats 400000 in
theorem sz_any : ∀ m, SzOk m := by
  intro m
  induction m with
  | zero => intro d B w left h; have := d.size_pos; omega
  | succ m ih =>
    intro d B w left hm h0 hl hin hB
    obtain ⟨k, n, t, A, c, l⟩ := d
    have hL := szL_step m ih
    have hcap := hin.cap
    simp only [D.l, D.c, D.t] at hcap
    simp only [D.val, D.k, D.n, D.t, D.A, D.l, D.c]
    have hmm : D.sizeL l ≤ m := by simp only [D.size] at hm; omega
    by_cases hfit : (t.size : Int) ≤ left
    · have hn : ¬ (left - (t.size : Int) < 0) := by omega
      go_enter Try.func86, Try.ntmps86
      go_wp2_with fail
      refine (hL k n t A c l B _ _ hmm (by omega) (by omega) (hin.alloc hB _) (by simp; omega)).mono ?_
      rintro e w1 ⟨rfl, hb1⟩
      have hb : Below w.heap.size w w1 := ((Below.refl _ _).alloc (Nat.le_refl _) _).trans (hb1.mono (by simp))
      by_cases hy : (D.bulkL l : Int) ≤ left - t.size
      · rw [szR_yes hy]
        have hy2 : ¬ (left - (t.size : Int) - (D.bulkL l : Int) < 0) := by omega
        go_wp2_with fail
        go_ret
        exact ⟨ret_int (by simp only [D.bulk]; rw [szR_yes (by omega)]; omega), hb⟩
      · rw [szR_no hy]
        go_wp2_with fail
        go_ret
        exact ⟨ret_int (by simp only [D.bulk]; rw [szR_no (by omega)]), hb⟩
    · have hn : left - (t.size : Int) < 0 := by omega
      go_enter Try.func86, Try.ntmps86
      go_wp2_with fail
      go_ret
      exact ⟨ret_int (by simp only [D.bulk]; rw [szR_no (by omega)]), (Below.refl _ _).alloc (Nat.le_refl _) _⟩
theorem szL_any (m : Nat) : SzLOk m := szL_step m (sz_any m)
end Go.Proofs.Ytpigpncbjckbcaa

namespace Go.Proofs.Ytpigpncbjckbcaa
open Go.RowKit

theorem run_make_rowN {P : Program} (t e : TypeId) (i : TypeInfo) (z : Value) (ht : P.underlying t = some (.slice e)) (hi : P.info? e = some i) (hz : i.zero = some z)
    (kl kc : IntKind) (n c : Nat) (hnc : n ≤ c) (hbytes : i.bytes * c ≤ 281474976710656) (h63 : c ≤ 9223372036854775807) (w : World) :
    (Instr.makeSlice t (.int kl (n : Int)) (.int kc (c : Int))).run P w = .ok (.slice (some ⟨w.heap.size, 0, none⟩) n c) (w.alloc (.cells (madeCells z.cells (c * i.size)) e)) := by
  have hb : (i.bytes : Int) * (c : Int) ≤ 281474976710656 := by
    have h : ((i.bytes * c : Nat) : Int) ≤ 281474976710656 := by omega
    rwa [Int.natCast_mul] at h
  have hr := run_make (P := P) w t e i z ht hi hz kl kc n c (by omega) (by omega) hb (by omega)
  simp only [Int.toNat_natCast] at hr
  exact hr

theorem ret_sl {A : Option Addr} {m n c : Nat} (h : m = n) : Ending.returned (.slice A m c) = .returned (.slice A n c) := by rw [h]
theorem infoD : (Try.prog.info? 51).map (fun i => (i.zero, i.size, i.bytes)) = some (some (.agg #[.int .i64 0, .int .i64 0, .string ⟨#[]⟩, .slice none 0 0]), 4, 56) := by kernel_rfl

/-- Returned: a datum of the call's own that is this one, apart from its places. -/
def RetD (x : D) (w : World) (e : Ending) (w' : World) : Prop := ∃ d : D, e = .returned d.val ∧ d.er = x ∧ d.Own w.heap.size w'.heap.size w' ∧ Below w.heap.size w w'
/-- Returned: a list of data of the call's own. -/
def RetL (x : List D) (w : World) (e : Ending) (w' : World) : Prop := ∃ (k n : Int) (t : ByteArray) (A : Option Addr) (c : Nat) (l : List D), e = .returned (.slice A l.length c) ∧ D.erL l = x ∧ D.Own w.heap.size w'.heap.size w' (.mk k n t A c l) ∧ Below w.heap.size w w'

def ToOk (m : Nat) : Prop := ∀ (d : D) (B : Nat) (w : World), d.size ≤ m → m ≤ 2000000 → d.In w B → B ≤ w.heap.size → Calls Try.prog 87 #[d.val] w (RetD d.er w)
def ToLOk (m : Nat) : Prop := ∀ (k n : Int) (t : ByteArray) (A : Option Addr) (c : Nat) (l : List D) (B : Nat) (w : World), D.sizeL l ≤ m → m ≤ 2000000 → (D.mk k n t A c l).In w B → B ≤ w.heap.size →
    Calls Try.prog 93 #[.slice A l.length c] w (RetL (D.erL l) w)

set_option maxHeartbeats 400000 in
theorem toL_step (m : Nat) (ih : ToOk m) : ToLOk m := by
  intro k n t A c l B w hm hm2 hin hB
  have hcap := hin.cap
  simp only [D.l, D.c, D.t] at hcap
  have hll := D.length_le_sizeL l
  obtain ⟨i0, hi0, hz0, hz1, hz2⟩ := info_parts infoD
  have hmk := fun W => run_make_rowN (P := Try.prog) 49 51 i0 _ Try.underlying49 hi0 hz0 .i64 .i64 l.length l.length (Nat.le_refl _) (by rw [hz2]; omega) (by omega) W
  rw [hz1] at hmk
  go_enter Try.func93, Try.ntmps93
  go_wp2_with fail
  go_loopw [4] (fun i wr => ∃ j : Nat, j ≤ l.length ∧ i = .int .i64 j ∧ ∃ ds : List D, Hid (D.erL ds = D.erL (l.take j)) ∧ ds.length ≤ j ∧ j ≤ ds.length ∧ D.RowTo wr w.heap.size 51 l.length ds ∧ D.OwnL (w.heap.size + 1) wr.heap.size wr ds ∧ Below w.heap.size w wr) (fun i _ => l.length - (intOf i).toNat)
  case atStart => exact ⟨0, Nat.zero_le _, rfl, [], by simp [D.erL, Hid], Nat.le_refl _, Nat.le_refl _, ⟨_, D.Blk.new _ _ _, by rw [size_madeCells]; omega, by simp [D.cellsL]⟩, D.OwnL.nil_, (Below.refl _ _).alloc (Nat.le_refl _) _⟩
  case round =>
    obtain ⟨j, hj, rfl, ds, HE, hd1, hd2, hrow, hown, hb⟩ := hrel
    by_cases hlt : j < l.length
    · obtain ⟨b, o, rfl, hblk, c0, c1, c2, c3, hix⟩ := (hin.below (hb.mono hB)).at_ (i := j) (x := l[j]) (List.getElem?_eq_getElem hlt)
      have hs2 := hb.size
      have hsz := D.sizeL_mem (l := l) (List.getElem_mem hlt)
      have hglt : w.heap.size < wr.heap.size := by obtain ⟨cs, h, _⟩ := hrow; exact h.lt
      go_wp2_with fail
      refine (ih l[j] B _ (by omega) (by omega) hix (by omega)).mono ?_
      rintro e w1 ⟨d, rfl, hde, hod, hb1⟩
      have hrow1 := hrow.below hb1 hglt
      obtain ⟨v0, hc0⟩ := hrow1.old (i := j * 4) (by omega)
      obtain ⟨v1, hc1⟩ := hrow1.old (i := j * 4 + 1) (by omega)
      obtain ⟨v2, hc2⟩ := hrow1.old (i := j * 4 + 2) (by omega)
      obtain ⟨v3, hc3⟩ := hrow1.old (i := j * 4 + 3) (by omega)
      have f0 := hrow1.frozen (j * 4)
      have f1 := hrow1.frozen (j * 4 + 1)
      have f2 := hrow1.frozen (j * 4 + 2)
      have f3 := hrow1.frozen (j * 4 + 3)
      have hst := hrow1.step (Nat.le_antisymm hd1 hd2) hlt d
      have Hde := Lib.hid hde
      clear hde
      simp only [D.val]
      go_wp2_with fail
      refine ⟨⟨j + 1, by omega, by go_num, ds ++ [d], ?_, by simp; omega, by simp; omega, hst, ?_, ?_⟩, by simp [intOf]; omega⟩
      · show _ = _
        rw [List.take_succ_eq_append_getElem hlt, D.erL_append, D.erL_append, HE.out]
        simp [D.erL, Hde.out]
      · have h1 : D.OwnL (w.heap.size + 1) w1.heap.size w1 (ds ++ [d]) := hown.snoc hb1 hod hb1.size (by omega)
        simp only [World.size_setCell]
        exact (((h1.far (by simp) _).far (by simp) _).far (by simp) _).far (by simp) _
      · exact ((((hb.trans (hb1.mono (by omega))).setCell (by simp) _).setCell (by simp) _).setCell (by simp) _).setCell (by simp) _
    · have hj' : j = l.length := by omega
      go_wp2_with fail
      go_ret
      have hj'' : ds.length = l.length := by omega
      subst hj'
      obtain ⟨cs, hB1, hcs, hcells⟩ := hrow
      have HE' := HE.out
      rw [List.take_length] at HE'
      refine ⟨0, 0, ⟨#[]⟩, some ⟨w.heap.size, 0, none⟩, l.length, ds, ret_sl hj''.symm, HE', ?_, hb⟩
      exact D.Own.of_row (hown.wide (by omega) (Nat.le_refl _)) ⟨by omega, by unfold maxLen; omega, Nat.zero_le _⟩ (fun hm => by have := hown.lo_ _ hm; omega) (Nat.le_refl _) hB1.lt (fun o => hB1.frozen o) (fun j u hu => by rw [hB1.cell]; exact hcells j u hu)

set_option maxHeartbeats 400000 in
theorem to_any : ∀ m, ToOk m := by
  intro m
  induction m with
  | zero => intro d B w h; have := d.size_pos; omega
  | succ m ih =>
    intro d B w hm hm2 hin hB
    obtain ⟨k, n, t, A, c, l⟩ := d
    have hL := toL_step m ih
    have hcap := hin.cap
    simp only [D.l, D.c, D.t] at hcap
    simp only [D.val, D.k, D.n, D.t, D.A, D.l, D.c]
    have hmm : D.sizeL l ≤ m := by simp only [D.size] at hm; omega
    go_enter Try.func87, Try.ntmps87
    go_wp2_with fail
    refine (hL k n t A c l B _ hmm (by omega) (((hin.alloc hB _).alloc (by simp; omega) _).alloc (by simp; omega) _) (by simp; omega)).mono ?_
    rintro e w1 ⟨k', n', t', A', c', l', rfl, hde, hod, hb1⟩
    obtain ⟨hc, hf⟩ := bcell hb1
    have hz := hb1.size
    simp only [World.size_alloc] at hc hf hz hod
    have Hde := Lib.hid hde
    clear hde
    go_wp2_with fail
    refine bodyPost_ret (v := .agg #[.int .i64 k, .int .i64 n, .string t, .slice A' l'.length c']) (by simp [results, Try.results87, go_sem, hc]) rfl ⟨.mk k n t A' c' l', rfl, ?_, ?_, ?_⟩
    · simp only [D.er, Hde.out]
    · have h1 := (hod.head (k' := k) (n' := n) (t' := t) hcap.2.2)
      simp only [World.size_setCell]
      exact (((((h1.far (by simp) _).far (by simp) _).far (by simp) _).far (by simp) _).far (by simp) _).wide (by omega) (Nat.le_refl _)
    · have h0 : Below w.heap.size w w1 := ((((Below.refl _ _).alloc (Nat.le_refl _) _).alloc (by simp) _).alloc (by simp; omega) _).trans (hb1.mono (by simp; omega))
      exact ((((h0.setCell (by simp; omega) _).setCell (by simp) _).setCell (by simp) _).setCell (by simp) _).setCell (by simp) _
theorem toL_any (m : Nat) : ToLOk m := toL_step m (to_any m)
end Go.Proofs.Ytpigpncbjckbcaa

namespace Go.Proofs.Ytpigpncbjckbcaa
open Go.RowKit

def EqOk (m : Nat) : Prop := ∀ (d e : D) (B : Nat) (w : World), d.size ≤ m → d.In w B → e.In w B → B ≤ w.heap.size →
    Calls Try.prog 88 #[d.val, e.val] w fun x w' => x = .returned (.bool (D.eqB d e)) ∧ Below w.heap.size w w'
def EqLOk (m : Nat) : Prop := ∀ (k n : Int) (t : ByteArray) (A : Option Addr) (c : Nat) (l : List D) (k' n' : Int) (t' : ByteArray) (A' : Option Addr) (c' : Nat) (l' : List D) (B : Nat) (w : World), D.sizeL l ≤ m →
    (D.mk k n t A c l).In w B → (D.mk k' n' t' A' c' l').In w B → B ≤ w.heap.size →
    Calls Try.prog 94 #[.slice A l.length c, .slice A' l'.length c'] w fun x w' => x = .returned (.bool (D.eqL l l')) ∧ Below w.heap.size w w'

set_option maxHeartbeats 400000 in
theorem eq_any (m : Nat) (hL : EqLOk m) : EqOk (m + 1) := by
  intro d e B w hm hin hin' hB
  obtain ⟨k, n, t, A, c, l⟩ := d
  obtain ⟨k', n', t', A', c', l'⟩ := e
  have hcap := hin.cap
  have hcap' := hin'.cap
  simp only [D.l, D.c, D.t] at hcap hcap'
  simp only [D.val, D.k, D.n, D.t, D.A, D.l, D.c]
  have hmm : D.sizeL l ≤ m := by simp only [D.size] at hm; omega
  have hfin : D.eqB (.mk k n t A c l) (.mk k' n' t' A' c' l') = (k == k' && (n == n' && (t.toList == t'.toList && D.eqL l l'))) := rfl
  have Hfin := Lib.hid hfin
  clear hfin
  by_cases hk : k = k'
  · by_cases hn : n = n'
    · subst hk hn
      cases ht : (t.toList == t'.toList)
      · have Ht := Lib.hid ht
        go_enter Try.func88, Try.ntmps88
        go_wp2_with fail
        go_ret
        exact ⟨ret_bool (by rw [Hfin.out, Ht.out]; simp), ((Below.refl _ _).alloc (Nat.le_refl _) _).alloc (by simp) _⟩
      · have Ht := Lib.hid ht
        go_enter Try.func88, Try.ntmps88
        go_wp2_with fail
        refine (hL k n t A c l k n t' A' c' l' B _ hmm ((hin.alloc hB _).alloc (by simp; omega) _) ((hin'.alloc hB _).alloc (by simp; omega) _) (by simp; omega)).mono ?_
        rintro e w1 ⟨rfl, hb1⟩
        have hb : Below w.heap.size w w1 := (((Below.refl _ _).alloc (Nat.le_refl _) _).alloc (by simp) _).trans (hb1.mono (by simp; omega))
        cases hq : D.eqL l l'
        · go_wp2_with fail
          go_ret
          exact ⟨ret_bool (by rw [Hfin.out, Ht.out, hq]; simp), hb⟩
        · go_wp2_with fail
          go_ret
          exact ⟨ret_bool (by rw [Hfin.out, Ht.out, hq]; simp), hb⟩
    · subst hk
      have h1 : (n != n') = true := by simpa using hn
      have h2 : (n == n') = false := by simpa using hn
      have H2 := Lib.hid h2
      clear h2
      go_enter Try.func88, Try.ntmps88
      go_wp2_with fail
      go_ret
      exact ⟨ret_bool (by rw [Hfin.out, H2.out]; simp), ((Below.refl _ _).alloc (Nat.le_refl _) _).alloc (by simp) _⟩
  · have h1 : (k != k') = true := by simpa using hk
    have h2 : (k == k') = false := by simpa using hk
    have H2 := Lib.hid h2
    clear h2
    go_enter Try.func88, Try.ntmps88
    go_wp2_with fail
    go_ret
    exact ⟨ret_bool (by rw [Hfin.out, H2.out]; simp), ((Below.refl _ _).alloc (Nat.le_refl _) _).alloc (by simp) _⟩

theorem eqL_take (l l' : List D) (j : Nat) (h : j < l.length) (h' : j < l'.length) (ht : D.eqL (l.take j) (l'.take j) = true) : D.eqL l l' = (D.eqB l[j] l'[j] && D.eqL (l.drop (j + 1)) (l'.drop (j + 1))) := by
  induction j generalizing l l' with
  | zero =>
    match l, l' with
    | [], _ => simp at h
    | _ :: _, [] => simp at h'
    | a :: r, b :: s => simp [D.eqL]
  | succ j ih =>
    match l, l' with
    | [], _ => simp at h
    | _ :: _, [] => simp at h'
    | a :: r, b :: s =>
      simp [D.eqL] at ht h h' ⊢
      rw [ht.1, ih r s h h' ht.2]
      simp
theorem eqL_take_succ (l l' : List D) (j : Nat) (h : j < l.length) (h' : j < l'.length) : D.eqL (l.take (j + 1)) (l'.take (j + 1)) = (D.eqL (l.take j) (l'.take j) && D.eqB l[j] l'[j]) := by
  induction j generalizing l l' with
  | zero =>
    match l, l' with
    | [], _ => simp at h
    | _ :: _, [] => simp at h'
    | a :: r, b :: s => simp [D.eqL]
  | succ j ih =>
    match l, l' with
    | [], _ => simp at h
    | _ :: _, [] => simp at h'
    | a :: r, b :: s =>
      simp at h h'
      have := ih r s h h'
      simp [D.eqL] at this ⊢
      rw [this, Bool.and_assoc]
theorem eqL_length (l l' : List D) (h : l.length ≠ l'.length) : D.eqL l l' = false := by
  induction l generalizing l' with
  | nil => cases l' with
    | nil => simp at h
    | cons _ _ => rfl
  | cons a r ih => cases l' with
    | nil => rfl
    | cons b s =>
      simp at h
      simp [D.eqL, ih s h]

set_option maxHeartbeats 800000 in
theorem eqL_step (m : Nat) (ih : EqOk m) : EqLOk m := by
  intro k n t A c l k' n' t' A' c' l' B w hm hin hin' hB
  have hcap := hin.cap
  have hcap' := hin'.cap
  simp only [D.l, D.c, D.t] at hcap hcap'
  by_cases hlen : l.length = l'.length
  · have hn1 : ((l.length : Int) != (l'.length : Int)) = false := by simp [hlen]
    have Hlen := Lib.hid hlen
    have hlen1 : l'.length ≤ l.length := by omega
    have hlen2 : l.length ≤ l'.length := by omega
    clear hlen
    go_enter Try.func94, Try.ntmps94
    go_wp2_with fail
    go_loopw [5] (fun i wr => ∃ j : Nat, j ≤ l.length ∧ i = .int .i64 j ∧ Hid (D.eqL (l.take j) (l'.take j) = true) ∧ Below w.heap.size w wr) (fun i _ => l.length - (intOf i).toNat)
    case atStart => exact ⟨0, Nat.zero_le _, rfl, by simp [Hid, D.eqL], Below.refl _ _⟩
    case round =>
      obtain ⟨j, hj, rfl, HE, hb⟩ := hrel
      by_cases hlt : j < l.length
      · have hlt' : j < l'.length := by omega
        obtain ⟨b, o, rfl, hblk, c0, c1, c2, c3, hix⟩ := (hin.below (hb.mono hB)).at_ (i := j) (x := l[j]) (List.getElem?_eq_getElem hlt)
        obtain ⟨b', o', rfl, hblk', c0', c1', c2', c3', hix'⟩ := (hin'.below (hb.mono hB)).at_ (i := j) (x := l'[j]) (List.getElem?_eq_getElem hlt')
        have hs2 := hb.size
        have hsz := D.sizeL_mem (l := l) (List.getElem_mem hlt)
        have g1 : (0 : Int) ≤ (j : Int) := by omega
        have g2 : (j : Int) < (l.length : Int) := by omega
        have g3 : (j : Int) < (l'.length : Int) := by omega
        go_wp2_with fail
        go_region_held3 (fun w' => w'.cell? ⟨b, o + j * 4, none⟩ = some (.int .i64 l[j].k) ∧ w'.cell? ⟨b, o + j * 4 + 1, none⟩ = some (.int .i64 l[j].n) ∧ w'.cell? ⟨b, o + j * 4 + 2, none⟩ = some (.string l[j].t) ∧ w'.cell? ⟨b, o + j * 4 + 3, none⟩ = some (.slice l[j].A l[j].l.length l[j].c) ∧
            w'.cell? ⟨b', o' + j * 4, none⟩ = some (.int .i64 l'[j].k) ∧ w'.cell? ⟨b', o' + j * 4 + 1, none⟩ = some (.int .i64 l'[j].n) ∧ w'.cell? ⟨b', o' + j * 4 + 2, none⟩ = some (.string l'[j].t) ∧ w'.cell? ⟨b', o' + j * 4 + 3, none⟩ = some (.slice l'[j].A l'[j].l.length l'[j].c)) (go_keep)
          ((go_at_call 88; refine (ih l[j] l'[j] B _ ?_ ?_ ?_ ?_).mono ?_; omega; exact hix.drew; exact hix'.drew; (show B ≤ wr.heap.size); omega; rintro e w1 ⟨rfl, hb1⟩; have q1 : b < wr.heap.size := (by omega); have q2 : b' < wr.heap.size := (by omega); have a0 := (hb1.cell (p := ⟨b, o + j * 4, none⟩) q1).trans c0; have a1 := (hb1.cell (p := ⟨b, o + j * 4 + 1, none⟩) q1).trans c1; have a2 := (hb1.cell (p := ⟨b, o + j * 4 + 2, none⟩) q1).trans c2; have a3 := (hb1.cell (p := ⟨b, o + j * 4 + 3, none⟩) q1).trans c3; have a0' := (hb1.cell (p := ⟨b', o' + j * 4, none⟩) q2).trans c0'; have a1' := (hb1.cell (p := ⟨b', o' + j * 4 + 1, none⟩) q2).trans c1'; have a2' := (hb1.cell (p := ⟨b', o' + j * 4 + 2, none⟩) q2).trans c2'; have a3' := (hb1.cell (p := ⟨b', o' + j * 4 + 3, none⟩) q2).trans c3'))
        have hb2 : Below w.heap.size w w1 := hb.trans ((below_undrew hb1).mono (show w.heap.size ≤ wr.heap.size by omega))
        cases hq : D.eqB l[j] l'[j]
        · have Hq := Lib.hid hq
          go_wp2_with fail
          go_ret
          exact ⟨ret_bool (by rw [eqL_take l l' j hlt hlt' HE.out, Hq.out]; rfl), hb2⟩
        · have Hq := Lib.hid hq
          go_wp2_with fail
          go_roundw
          case rel => exact ⟨j + 1, by omega, by go_num, by (show _ = _); rw [eqL_take_succ l l' j hlt hlt', HE.out, Hq.out]; rfl, hb2⟩
          case measure => simp [intOf]; omega
      · have hj' : j = l.length := by omega
        subst hj'
        go_wp2_with fail
        go_ret
        exact ⟨ret_bool (by have := HE.out; rwa [List.take_length, List.take_of_length_le (by omega), eq_comm] at this), hb⟩
  · have hn1 : ((l.length : Int) != (l'.length : Int)) = true := by simpa using (by omega : ¬ (l.length : Int) = (l'.length : Int))
    have Hn := Lib.hid (eqL_length l l' hlen)
    go_enter Try.func94, Try.ntmps94
    go_wp2_with fail
    go_ret
    exact ⟨ret_bool Hn.out.symm, Below.refl _ _⟩
theorem eqL_all : ∀ m, EqLOk m := by
  intro m
  induction m with
  | zero =>
    intro k n t A c l k' n' t' A' c' l' B w hm hin hin' hB
    exact eqL_step 0 (fun d e B w hd => by have := d.size_pos; omega) k n t A c l k' n' t' A' c' l' B w hm hin hin' hB
  | succ m ih => exact eqL_step (m + 1) (eq_any m ih)
theorem eq_all (m : Nat) : EqOk (m + 1) := eq_any m (eqL_all m)
end Go.Proofs.Ytpigpncbjckbcaa

namespace Go.Proofs.Ytpigpncbjckbcaa
open Go.RowKit
namespace D
theorem eqB_refl : ∀ d : D, eqB d d = true := by
  intro d
  induction d using ind with
  | h d ih =>
    cases d with
    | mk k n t A c l =>
      have key : ∀ l' : List D, (∀ x ∈ l', x ∈ l) → eqL l' l' = true := by
        intro l'
        induction l' with
        | nil => intro _; rfl
        | cons x r ih2 =>
          intro hs
          simp only [eqL, ih x (hs x (by simp)), ih2 fun y hy => hs y (by simp [hy]), Bool.and_self]
      simp [eqB, key l (fun _ h => h)]
theorem eqB_er : ∀ d e : D, eqB d e = eqB (er d) (er e) := by
  intro d
  induction d using ind with
  | h d ih =>
    cases d with
    | mk k n t A c l =>
      intro e
      cases e with
      | mk k' n' t' A' c' l' =>
        have key : ∀ (a : List D), (∀ x ∈ a, x ∈ l) → ∀ b, eqL a b = eqL (erL a) (erL b) := by
          intro a
          induction a with
          | nil => intro _ b; cases b <;> rfl
          | cons x r ih2 =>
            intro hs b
            cases b with
            | nil => rfl
            | cons y s => simp only [eqL, erL, ← ih x (hs x (by simp)), ← ih2 (fun y hy => hs y (by simp [hy]))]
        simp only [eqB, er, key l (fun _ h => h)]
theorem eqB_of_er {d e : D} (h : er d = er e) : eqB d e = true := by rw [eqB_er, h]; exact eqB_refl _
theorem sizeL_er (l : List D) : sizeL (erL l) = sizeL l := by
  have key : ∀ d : D, size (er d) = size d := by
    intro d
    induction d using ind with
    | h d ih =>
      cases d with
      | mk k n t A c l =>
        have key : ∀ (a : List D), (∀ x ∈ a, x ∈ l) → sizeL (erL a) = sizeL a := by
          intro a
          induction a with
          | nil => intro _; rfl
          | cons x r ih2 =>
            intro hs
            simp only [sizeL, erL, ih x (hs x (by simp)), ih2 fun y hy => hs y (by simp [hy])]
        simp only [er, size, key l (fun _ h => h)]
  induction l with
  | nil => rfl
  | cons x r ih => simp only [sizeL, erL, key, ih]
theorem size_er (d : D) : size (er d) = size d := by cases d; simp only [er, size, sizeL_er]
theorem erl_of_er {d e : D} (h : er d = er e) : erL d.l = erL e.l := by cases d; cases e; simp only [er, D.mk.injEq] at h; exact h.2.2.2.2.2
theorem er_er : ∀ d : D, er (er d) = er d := by
  intro d
  induction d using ind with
  | h d ih =>
    cases d with
    | mk k n t A c l =>
      have key : ∀ (a : List D), (∀ x ∈ a, x ∈ l) → erL (erL a) = erL a := by
        intro a
        induction a with
        | nil => intro _; rfl
        | cons x r ih2 => intro hs; simp only [erL, ih x (hs x (by simp)), ih2 fun y hy => hs y (by simp [hy])]
      simp only [er, key l (fun _ h => h)]
theorem size_of_er {d e : D} (h : er d = er e) : d.size = e.size := by rw [← size_er, h, size_er]
theorem bulk_size (d : D) : d.size ≤ d.bulk + 1 := by
  induction d using ind with
  | h d ih =>
    cases d with
    | mk k n t A c l =>
      have key : ∀ (a : List D), (∀ x ∈ a, x ∈ l) → sizeL a ≤ bulkL a := by
        intro a
        induction a with
        | nil => intro _; simp [sizeL]
        | cons x r ih2 =>
          intro hs
          have h1 := ih x (hs x (by simp))
          have h2 := ih2 fun y hy => hs y (by simp [hy])
          simp only [sizeL, bulkL]
          omega
      have := key l (fun _ h => h)
      simp only [size, bulk]
      omega
theorem bulkL_size (l : List D) : sizeL l ≤ bulkL l := by
  induction l with
  | nil => simp [sizeL]
  | cons x r ih => have := bulk_size x; simp only [sizeL, bulkL]; omega
/-- A variable that holds a datum. -/
structure Box (w : World) (b : Nat) (d : D) : Prop where
  c0 : w.cell? ⟨b, 0, none⟩ = some (.int .i64 d.k)
  c1 : w.cell? ⟨b, 1, none⟩ = some (.int .i64 d.n)
  c2 : w.cell? ⟨b, 2, none⟩ = some (.string d.t)
  c3 : w.cell? ⟨b, 3, none⟩ = some (.slice d.A d.l.length d.c)
theorem Box.below {w w' : World} {b B : Nat} {d : D} (h : Box w b d) (hb : Below B w w') (hB : b < B) : Box w' b d :=
  ⟨(hb.cell (p := ⟨b, 0, none⟩) hB).trans h.c0, (hb.cell (p := ⟨b, 1, none⟩) hB).trans h.c1, (hb.cell (p := ⟨b, 2, none⟩) hB).trans h.c2, (hb.cell (p := ⟨b, 3, none⟩) hB).trans h.c3⟩
theorem Box.chg {w w' : World} {b : Nat} {d : D} {S : List Nat} (h : Box w b d) (hb : Chg S w w') (hlt : b < w.heap.size) (hn : b ∉ S) : Box w' b d := by
  have e : ∀ q, w'.cell? ⟨b, q, none⟩ = w.cell? ⟨b, q, none⟩ := fun q => World.cell?_of_block (hb.block b hlt hn)
  exact ⟨(e 0).trans h.c0, (e 1).trans h.c1, (e 2).trans h.c2, (e 3).trans h.c3⟩
theorem Box.new (w : World) (d : D) (t : TypeId) : Box (w.alloc (.cells #[.int .i64 d.k, .int .i64 d.n, .string d.t, .slice d.A d.l.length d.c] t)) w.heap.size d :=
  ⟨by rw [cell_of_row _ _ _ _ _ _ (heap_alloc_new w _)]; rfl, by rw [cell_of_row _ _ _ _ _ _ (heap_alloc_new w _)]; rfl, by rw [cell_of_row _ _ _ _ _ _ (heap_alloc_new w _)]; rfl, by rw [cell_of_row _ _ _ _ _ _ (heap_alloc_new w _)]; rfl⟩
end D

end Go.Proofs.Ytpigpncbjckbcaa
