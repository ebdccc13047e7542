/-
  The laws' own functions on syntax objects: sizes.
-/
import Derived.Test.YtnldlbglgalbaabGreatSBase
import Derived.Test.YtnldlbglgalbaabGreatTrees
import Derived.Test.YtnldlbglgalbaabGreatProg
import Derived.Handy
import Derived.WalkSpells
import Derived.Deep.RegionHeld3
namespace Go.Proofs.YtnldlbglgalbaabGreat
open Go.RowKit

def SSzOk (m : Nat) : Prop := ∀ (d : S) (B : Nat) (w : World) (left : Int), d.size ≤ m → 0 ≤ left → left ≤ 1048576 → d.In w B → B ≤ w.heap.size →
    Calls Tryz.prog 12 #[d.val, .int .i64 left] w fun e w' => e = .returned (.int .i64 (szR d.bulk left)) ∧ Below w.heap.size w w'
def SSzLOk (m : Nat) : Prop := ∀ (k n : Int) (t : ByteArray) (sa : Option Addr) (sc : Nat) (s : List Int) (A : Option Addr) (c : Nat) (l : List S) (B : Nat) (w : World) (left : Int), S.sizeL l ≤ m → 0 ≤ left → left ≤ 1048576 → (S.mk k n t sa sc s A c l).In w B → B ≤ w.heap.size →
    Calls Tryz.prog 11 #[.slice A l.length c, .int .i64 left] w fun e w' => e = .returned (.int .i64 (szR (S.bulkL l) left)) ∧ Below w.heap.size w w'

theorem sbulkL_take_le (l : List S) (j : Nat) : S.bulkL (l.take j) + (l.length - j) ≤ S.bulkL l := by
  have h := S.bulkL_append (l.take j) (l.drop j)
  rw [List.take_append_drop] at h
  have h2 : ∀ r : List S, r.length ≤ S.bulkL r := fun r => by
    induction r with
    | nil => simp
    | cons d r ih => simp [S.bulkL]; omega
  have := h2 (l.drop j)
  rw [List.length_drop] at this
  omega
theorem sbulkL_take_succ (l : List S) (j : Nat) (h : j < l.length) : S.bulkL (l.take (j + 1)) = S.bulkL (l.take j) + 1 + l[j].bulk := by
  rw [List.take_succ_eq_append_getElem h, S.bulkL_append]; simp [S.bulkL]; omega
theorem ssizeL_get_le (l : List S) (j : Nat) (h : j < l.length) : l[j].size ≤ S.sizeL l := S.sizeL_mem (List.getElem_mem h)

set_option maxHeartbeats 400000 in
theorem sszL_step (m : Nat) (ih : SSzOk m) : SSzLOk m := by
  intro k n t sa sc s A c l B w left hm h0 hl hin hB
  have hcap := hin.cap
  simp only [S.l, S.c, S.t] at hcap
  by_cases hfit : (l.length : Int) ≤ left
  · have hn : ¬ (left - (l.length : Int) < 0) := by omega
    have hb0 := sbulkL_take_le l 0
    go_enter Tryz.func11, Tryz.ntmps11
    go_wp2_with fail
    go_loopw [1, 5] (fun lf i wr => ∃ j : Nat, j ≤ l.length ∧ i = .int .i64 j ∧ (S.bulkL (l.take j) : Int) + (l.length - j : Nat) ≤ left ∧ lf = .int .i64 (left - S.bulkL (l.take j) - (l.length - j : Nat)) ∧ Below w.heap.size w wr) (fun _ i _ => l.length - (intOf i).toNat)
    case atStart => exact ⟨0, Nat.zero_le _, rfl, by simp [S.bulkL]; omega, by simp [S.bulkL], Below.refl _ _⟩
    case round =>
      obtain ⟨j, hj, rfl, hf, rfl, hb⟩ := hrel
      by_cases hlt : j < l.length
      · obtain ⟨b, o, rfl, hblk, c0, c1, c2, c3, c4, hix⟩ := (hin.below (hb.mono hB)).at_ (i := j) (x := l[j]) (List.getElem?_eq_getElem hlt)
        have hs2 := hb.size
        have hsz := ssizeL_get_le l j hlt
        have HS : Hid (S.bulkL (l.take (j + 1)) = S.bulkL (l.take j) + 1 + l[j].bulk) := sbulkL_take_succ l j hlt
        have hle := sbulkL_take_le l (j + 1)
        rw [HS.out] at hle
        go_wp2_with fail
        refine (ih l[j] B _ _ (by omega) (by omega) (by omega) hix (by omega)).mono ?_
        rintro e w1 ⟨rfl, hb1⟩
        by_cases hy : (l[j].bulk : Int) ≤ left - S.bulkL (l.take j) - (l.length - j : Nat)
        · rw [szR_yes hy]
          have hy2 : ¬ (left - (S.bulkL (l.take j) : Int) - (l.length - j : Nat) - (l[j].bulk : Int) < 0) := by omega
          go_wp2_with fail
          go_roundw
          case rel => exact ⟨j + 1, by omega, by go_num, by rw [HS.out]; omega, by rw [HS.out]; go_num, hb.trans (hb1.mono (by omega))⟩
          case measure => simp [intOf]; omega
        · rw [szR_no hy]
          go_wp2_with fail
          go_ret
          exact ⟨ret_int (by rw [szR_no (by omega)]), hb.trans (hb1.mono (by omega))⟩
      · have hj' : j = l.length := by omega
        subst hj'
        go_wp2_with fail
        go_ret
        rw [List.take_length] at *
        exact ⟨ret_int (by rw [szR_yes (by omega)]; omega), hb⟩
  · have hn : left - (l.length : Int) < 0 := by omega
    go_enter Tryz.func11, Tryz.ntmps11
    go_wp2_with fail
    go_ret
    have := sbulkL_take_le l 0
    exact ⟨ret_int (by rw [szR_no (by omega)]), Below.refl _ _⟩

theorem szIR_any (A : Option Addr) (c : Nat) (l : List Int) (w : World) (left : Int) (hll : l.length ≤ c ∧ c ≤ 9223372036854775807) (h0 : 0 ≤ left) (h1 : left ≤ 1048576) :
    Calls Tryz.prog 39 #[.slice A l.length c, .int .i64 left] w fun e w' => e = .returned (.int .i64 (szR l.length left)) ∧ w' = w := by
  have h := szI_any A c l w left hll h0 h1
  unfold szR
  exact h

set_option maxHeartbeats 400000 in
theorem ssz_any : ∀ m, SSzOk m := by
  intro m
  induction m with
  | zero => intro d B w left h; have := d.size_pos; omega
  | succ m ih =>
    intro d B w left hm h0 hl hin hB
    obtain ⟨k, n, t, sa, sc, s, A, c, l⟩ := d
    have hL := sszL_step m ih
    have hcap := hin.cap
    have hsco := hin.scopes.cap
    simp only [S.l, S.c, S.t] at hcap
    simp only [S.sc, S.s] at hsco
    simp only [S.val, S.k, S.n, S.t, S.sa, S.sc, S.s, S.A, S.l, S.c]
    have hmm : S.sizeL l ≤ m := by simp only [S.size] at hm; omega
    by_cases hfit : (t.size : Int) ≤ left
    · have hn : ¬ (left - (t.size : Int) < 0) := by omega
      by_cases hfit2 : (s.length : Int) ≤ left - t.size
      · have hn2 : ¬ (left - (t.size : Int) - (s.length : Int) < 0) := by omega
        go_enter Tryz.func12, Tryz.ntmps12
        go_wp2_with fail
        refine (szIR_any sa sc s _ _ hsco (by omega) (by omega)).mono ?_
        rintro e w0 ⟨rfl, hw⟩
        obtain rfl := hw.symm
        rw [szR_yes (by omega)]
        go_wp2_with fail
        refine (hL k n t sa sc s A c l B _ _ hmm (by omega) (by omega) (hin.alloc hB _) (by simp; omega)).mono ?_
        rintro e w1 ⟨rfl, hb1⟩
        have hb : Below w.heap.size w w1 := ((Below.refl _ _).alloc (Nat.le_refl _) _).trans (hb1.mono (by simp))
        by_cases hy : (S.bulkL l : Int) ≤ left - t.size - s.length
        · rw [szR_yes hy]
          have hy2 : ¬ (left - (t.size : Int) - (s.length : Int) - (S.bulkL l : Int) < 0) := by omega
          go_wp2_with fail
          go_ret
          exact ⟨ret_int (by simp only [S.bulk]; rw [szR_yes (by omega)]; omega), hb⟩
        · rw [szR_no hy]
          go_wp2_with fail
          go_ret
          exact ⟨ret_int (by simp only [S.bulk]; rw [szR_no (by omega)]), hb⟩
      · go_enter Tryz.func12, Tryz.ntmps12
        go_wp2_with fail
        refine (szIR_any sa sc s _ _ hsco (by omega) (by omega)).mono ?_
        rintro e w0 ⟨rfl, hw⟩
        obtain rfl := hw.symm
        rw [szR_no (by omega)]
        go_wp2_with fail
        go_ret
        exact ⟨ret_int (by simp only [S.bulk]; rw [szR_no (by omega)]), (Below.refl _ _).alloc (Nat.le_refl _) _⟩
    · have hn : left - (t.size : Int) < 0 := by omega
      go_enter Tryz.func12, Tryz.ntmps12
      go_wp2_with fail
      go_ret
      exact ⟨ret_int (by simp only [S.bulk]; rw [szR_no (by omega)]), (Below.refl _ _).alloc (Nat.le_refl _) _⟩
end Go.Proofs.YtnldlbglgalbaabGreat

namespace Go.Proofs.YtnldlbglgalbaabGreat
open Go.RowKit

theorem infoS : (Tryz.prog.info? 43).map (fun i => (i.zero, i.size, i.bytes)) = some (some (.agg #[.int .i64 0, .int .i64 0, .string ⟨#[]⟩, .slice none 0 0, .slice none 0 0]), 5, 80) := by kernel_rfl

/-- Returned: a syntax object of the call's own that is this one, apart from its places. -/
def RetS (x : S) (w : World) (e : Ending) (w' : World) : Prop := ∃ d : S, e = .returned d.val ∧ d.er = x ∧ d.Own w.heap.size w'.heap.size w' ∧ Below w.heap.size w w'
/-- Returned: a list of syntax objects of the call's own, at the head of a block. -/
def RetSL (x : List S) (w : World) (e : Ending) (w' : World) : Prop := ∃ (A : Option Addr) (c : Nat) (l : List S), e = .returned (.slice A l.length c) ∧ S.erL l = x ∧ l.length ≤ c ∧ c ≤ 9223372036854775807 ∧ S.OwnL w.heap.size w'.heap.size w' l ∧
    (l ≠ [] → ∃ g, A = some ⟨g, 0, none⟩ ∧ g ∉ S.blksL l ∧ w.heap.size ≤ g ∧ g < w'.heap.size ∧ (∀ o, w'.frozen? ⟨g, o, none⟩ = false) ∧ (∀ j u, (S.cellsL l)[j]? = some u → w'.cell? ⟨g, j, none⟩ = some u)) ∧ Below w.heap.size w w'

def SToOk (m : Nat) : Prop := ∀ (d : S) (B : Nat) (w : World), d.bulk ≤ 2000000 → d.size ≤ m → m ≤ 2000000 → d.In w B → B ≤ w.heap.size → Calls Tryz.prog 15 #[d.val] w (RetS d.er w)
def SToLOk (m : Nat) : Prop := ∀ (k n : Int) (t : ByteArray) (sa : Option Addr) (sc : Nat) (s : List Int) (A : Option Addr) (c : Nat) (l : List S) (B : Nat) (w : World), S.bulkL l ≤ 2000000 → S.sizeL l ≤ m → m ≤ 2000000 → (S.mk k n t sa sc s A c l).In w B → B ≤ w.heap.size →
    Calls Tryz.prog 14 #[.slice A l.length c] w (RetSL (S.erL l) w)
theorem sbulk_mem {l : List S} {d : S} (h : d ∈ l) : d.bulk ≤ S.bulkL l := by
  induction l with
  | nil => cases h
  | cons e r ih =>
    simp only [S.bulkL]
    rcases List.mem_cons.1 h with rfl | h
    · omega
    · have := ih h; omega

set_option maxRecDepth 100000 in
set_option maxHeartbeats 800000 in
theorem stoL_step (m : Nat) (ih : SToOk m) : SToLOk m := by
  intro k n t sa sc s A c l B w hbk hm hm2 hin hB
  have hcap := hin.cap
  simp only [S.l, S.c, S.t] at hcap
  have hll := S.length_le_sizeL l
  obtain ⟨i0, hi0, hz0, hz1, hz2⟩ := info_parts infoS
  have hmk := fun W => run_make_rowN (P := Tryz.prog) 27 43 i0 _ Tryz.underlying27 hi0 hz0 .i64 .i64 l.length l.length (Nat.le_refl _) (by rw [hz2]; omega) (by omega) W
  rw [hz1] at hmk
  go_enter Tryz.func14, Tryz.ntmps14
  go_wp2_with fail
  go_loopw [4] (fun i wr => ∃ j : Nat, j ≤ l.length ∧ i = .int .i64 j ∧ ∃ ds : List S, Hid (S.erL ds = S.erL (l.take j)) ∧ ds.length ≤ j ∧ j ≤ ds.length ∧ S.RowTo wr w.heap.size 43 l.length ds ∧ S.OwnL (w.heap.size + 1) wr.heap.size wr ds ∧ Below w.heap.size w wr) (fun i _ => l.length - (intOf i).toNat)
  case atStart => exact ⟨0, Nat.zero_le _, rfl, [], by simp [S.erL, Hid], Nat.le_refl _, Nat.le_refl _, ⟨_, D.Blk.new _ _ _, by rw [size_madeCells]; omega, by simp [S.cellsL]⟩, S.OwnL.nil_, (Below.refl _ _).alloc (Nat.le_refl _) _⟩
  case round =>
    obtain ⟨j, hj, rfl, ds, HE, hd1, hd2, hrow, hown, hb⟩ := hrel
    by_cases hlt : j < l.length
    · obtain ⟨b, o, rfl, hblk, c0, c1, c2, c3, c4, hix⟩ := (hin.below (hb.mono hB)).at_ (i := j) (x := l[j]) (List.getElem?_eq_getElem hlt)
      have hs2 := hb.size
      have hsz := S.sizeL_mem (l := l) (List.getElem_mem hlt)
      have hbk1 := sbulk_mem (l := l) (List.getElem_mem hlt)
      have hglt : w.heap.size < wr.heap.size := hrow.lt
      go_wp2_with fail
      refine (ih l[j] B _ (by omega) (by omega) (by omega) hix (by omega)).mono ?_
      rintro e w1 ⟨d, rfl, hde, hod, hb1⟩
      have hrow1 := hrow.below hb1 hglt
      obtain ⟨v0, hc0⟩ := hrow1.old (i := j * 5) (by omega)
      obtain ⟨v1, hc1⟩ := hrow1.old (i := j * 5 + 1) (by omega)
      obtain ⟨v2, hc2⟩ := hrow1.old (i := j * 5 + 2) (by omega)
      obtain ⟨v3, hc3⟩ := hrow1.old (i := j * 5 + 3) (by omega)
      obtain ⟨v4, hc4⟩ := hrow1.old (i := j * 5 + 4) (by omega)
      have f0 := hrow1.frozen (j * 5)
      have f1 := hrow1.frozen (j * 5 + 1)
      have f2 := hrow1.frozen (j * 5 + 2)
      have f3 := hrow1.frozen (j * 5 + 3)
      have f4 := hrow1.frozen (j * 5 + 4)
      have hst := hrow1.step (Nat.le_antisymm hd1 hd2) hlt d
      have Hde := Lib.hid hde
      clear hde
      simp only [S.val]
      go_wp2_with fail
      refine ⟨⟨j + 1, by omega, by go_num, ds ++ [d], ?_, by simp; omega, by simp; omega, hst, ?_, ?_⟩, by simp [intOf]; omega⟩
      · show _ = _
        rw [List.take_succ_eq_append_getElem hlt, S.erL_append, S.erL_append, HE.out]
        simp [S.erL, Hde.out]
      · have h1 : S.OwnL (w.heap.size + 1) w1.heap.size w1 (ds ++ [d]) := hown.snoc hb1 hod hb1.size (by omega)
        simp only [World.size_setCell]
        exact ((((h1.far (by simp) _).far (by simp) _).far (by simp) _).far (by simp) _).far (by simp) _
      · exact (((((hb.trans (hb1.mono (by omega))).setCell (by simp) _).setCell (by simp) _).setCell (by simp) _).setCell (by simp) _).setCell (by simp) _
    · have hj' : j = l.length := by omega
      go_wp2_with fail
      go_ret
      have hj'' : ds.length = l.length := by omega
      subst hj'
      have hglt : w.heap.size < wr.heap.size := hrow.lt
      obtain ⟨cs, hB1, hcs, hcells⟩ := hrow
      have HE' := HE.out
      rw [List.take_length] at HE'
      refine ⟨some ⟨w.heap.size, 0, none⟩, l.length, ds, ret_sl hj''.symm, HE', by omega, by omega, hown.wide (by omega) (Nat.le_refl _), fun _ => ⟨w.heap.size, rfl, fun hm => by have := hown.lo_ _ hm; omega, Nat.le_refl _, hglt, fun o => hB1.frozen o, fun j u hu => by rw [hB1.cell]; exact hcells j u hu⟩, hb⟩

set_option maxRecDepth 100000 in
set_option maxHeartbeats 800000 in
theorem sto_any : ∀ m, SToOk m := by
  intro m
  induction m with
  | zero => intro d B w _ h; have := d.size_pos; omega
  | succ m ih =>
    intro d B w hbk hm hm2 hin hB
    obtain ⟨k, n, t, sa, sc, s, A, c, l⟩ := d
    have hL := stoL_step m ih
    have hcap := hin.cap
    have hsc := hin.scopes
    simp only [S.l, S.c, S.t] at hcap
    simp only [S.sa, S.sc, S.s] at hsc
    simp only [S.val, S.k, S.n, S.t, S.sa, S.sc, S.s, S.A, S.l, S.c]
    have hmm : S.sizeL l ≤ m := by simp only [S.size] at hm; omega
    have hsl : s.length ≤ 2000000 := by simp only [S.bulk] at hbk; omega
    have hbl : S.bulkL l ≤ 2000000 := by simp only [S.bulk] at hbk; omega
    obtain ⟨W1, hW1⟩ : ∃ W1, W1 = w.alloc (.cells #[.int .i64 k, .int .i64 n, .string t, .slice sa s.length sc, .slice A l.length c] 35) := ⟨_, rfl⟩
    obtain ⟨W2, hW2⟩ : ∃ W2, W2 = W1.alloc (.cells #[.int .i64 0, .int .i64 0, .string ⟨#[]⟩, .slice none 0 0, .slice none 0 0] 43) := ⟨_, rfl⟩
    obtain ⟨W3, hW3⟩ : ∃ W3, W3 = W2.alloc (.cells #[.int .i64 k, .int .i64 n, .string t, .slice none 0 0, .slice none 0 0] 43) := ⟨_, rfl⟩
    have z1 : W1.heap.size = w.heap.size + 1 := by rw [hW1]; simp
    have z2 : W2.heap.size = w.heap.size + 1 + 1 := by rw [hW2]; simp [z1]
    have z3 : W3.heap.size = w.heap.size + 1 + 1 + 1 := by rw [hW3]; simp [z2]
    have B1 : Below w.heap.size w W1 := by rw [hW1]; exact (Below.refl _ _).alloc (Nat.le_refl _) _
    have B2 : Below W1.heap.size W1 W2 := by rw [hW2]; exact (Below.refl _ _).alloc (Nat.le_refl _) _
    have B3 : Below W2.heap.size W2 W3 := by rw [hW3]; exact (Below.refl _ _).alloc (Nat.le_refl _) _
    have x0 : S.Box W1 w.heap.size (.mk k n t sa sc s A c l) := by rw [hW1]; exact S.Box.new w (.mk k n t sa sc s A c l) _
    have r0 : S.Box W2 (w.heap.size + 1) (.mk 0 0 ⟨#[]⟩ none 0 [] none 0 []) := by rw [hW2, ← z1]; exact S.Box.new W1 (.mk 0 0 ⟨#[]⟩ none 0 [] none 0 []) _
    have rf : Free W2 (w.heap.size + 1) := by rw [hW2, ← z1]; exact Free.new _ _ _
    have y0 : S.Box W3 (w.heap.size + 1 + 1) (.mk k n t none 0 [] none 0 []) := by rw [hW3, ← z2]; exact S.Box.new W2 (.mk k n t none 0 [] none 0 []) _
    have yf : Free W3 (w.heap.size + 1 + 1) := by rw [hW3, ← z2]; exact Free.new _ _ _
    have x0 := (x0.below B2 (by omega)).below B3 (by omega)
    have r0 := r0.below B3 (by omega)
    have rf := rf.below B3 (by omega)
    have b3 : Below w.heap.size w W3 := (B1.trans (B2.mono (by omega))).trans (B3.mono (by omega))
    go_enter Tryz.func15, Tryz.ntmps15
    go_wp2_with fail
    rw [← hW1, ← hW2, ← hW3]
    clear hW1 hW2 hW3 B1 B2 B3
    refine (toI_any sa sc s B _ hsl (hsc.below (b3.mono hB)) (by omega)).mono ?_
    rintro e w1 ⟨A1, c1, rfl, ho1, hb1⟩
    have zz1 := hb1.size
    have x1 := x0.below hb1 (by omega)
    have r1 := r0.below hb1 (by omega)
    have rf1 := rf.below hb1 (by omega)
    have y1 := y0.below hb1 (by omega)
    have yf1 := yf.below hb1 (by omega)
    have b4 := b3.trans (hb1.mono (by omega))
    obtain ⟨p0, p1, p2, p3, p4⟩ := x1
    obtain ⟨q0, q1, q2, q3, q4⟩ := y1
    have f3 := yf1.fr 3
    clear hb1 x0 r0 y0 rf yf b3
    go_wp2_with fail
    obtain ⟨W5, hW5⟩ : ∃ W5, W5 = w1.setCell ⟨w.heap.size + 1 + 1, 3, none⟩ (.slice A1 s.length c1) := ⟨_, rfl⟩
    rw [← hW5]
    have z5 : W5.heap.size = w1.heap.size := by rw [hW5]; simp
    have b5 : Below w.heap.size w W5 := by rw [hW5]; exact b4.setCell (by simp; omega) _
    have ho5 : IOwn W3.heap.size w1.heap.size W5 A1 c1 s := by rw [hW5]; exact ho1.far (by simp; omega) _
    have y5 : S.Box W5 (w.heap.size + 1 + 1) (.mk k n t A1 c1 s none 0 []) := by
      rw [hW5]
      exact ⟨(icell_ne _ _ _ _ _ (by omega)).trans q0, (icell_ne _ _ _ _ _ (by omega)).trans q1, (icell_ne _ _ _ _ _ (by omega)).trans q2, icell_eq q3, (icell_ne _ _ _ _ _ (by omega)).trans q4⟩
    have yf5 : Free W5 (w.heap.size + 1 + 1) := by rw [hW5]; exact yf1.set_ _ _
    have r5 : S.Box W5 (w.heap.size + 1) (.mk 0 0 ⟨#[]⟩ none 0 [] none 0 []) := by rw [hW5]; exact r1.keep (Below.heap_setCell _ _ _ _ (by simp))
    have rf5 : Free W5 (w.heap.size + 1) := by rw [hW5]; exact rf1.set_ _ _
    clear hW5 ho1 r1 rf1 yf1 q0 q1 q2 q3 q4 p0 p1 p2 p3 p4 f3 b4
    refine (hL k n t sa sc s A c l B _ hbl hmm (by omega) (hin.below (b5.mono hB)) (by omega)).mono ?_
    rintro e w2 ⟨A', c', l', rfl, hde, hl1, hl2, hod, hA, hb2⟩
    have zz2 := hb2.size
    obtain ⟨q0, q1, q2, q3, q4⟩ := y5.below hb2 (by omega)
    have yf2 := yf5.below hb2 (by omega)
    obtain ⟨s0, s1, s2, s3, s4⟩ := r5.below hb2 (by omega)
    have rf2 := rf5.below hb2 (by omega)
    have g4 := yf2.fr 4
    have h0 := rf2.fr 0
    have h1 := rf2.fr 1
    have h2 := rf2.fr 2
    have h3 := rf2.fr 3
    have h4 := rf2.fr 4
    have ho2 := ho5.below (hb2.mono (by omega))
    have bb2 := b5.trans (hb2.mono (by omega))
    have hown : S.Own (w.heap.size + 1 + 1 + 1) w2.heap.size w2 (.mk k n t A1 c1 s A' c' l') := S.Own.of_parts (ho2.wide (by omega) (by omega)) (hod.wide (by omega) (Nat.le_refl _)) ⟨hl1, hl2, hcap.2.2⟩ (fun hne => by
        obtain ⟨g, e1, e2, e3, e4, e5, e6⟩ := hA hne
        exact ⟨g, e1, e2, by omega, e4, e5, e6, fun b hb => by have := ho2.inn.blk_lt b hb; omega⟩) (fun b hb hm => by have := ho2.inn.blk_lt b hb; have := hod.lo_ b hm; omega)
    have Hown := Lib.hid hown
    have Hde := Lib.hid hde
    clear hde hown hod hA hb2 ho2 ho5 y5 yf5 r5 rf5 b5 hL hin
    simp only [S.k, S.n, S.t, S.sa, S.sc, S.s, S.A, S.c] at q0 q1 q2 q3 q4 s0 s1 s2 s3 s4
    have el0 : (S.mk k n t A1 c1 s none 0 []).l = [] := rfl
    have el1 : (S.mk 0 0 ⟨#[]⟩ none 0 [] none 0 []).l = [] := rfl
    rw [el0] at q4
    rw [el1] at s4
    go_wp2_with fail
    refine bodyPost_ret (v := .agg #[.int .i64 k, .int .i64 n, .string t, .slice A1 s.length c1, .slice A' l'.length c']) (by simp [results, Tryz.results15, go_sem, s0, s1, s2, s3, s4]) rfl ⟨.mk k n t A1 c1 s A' c' l', rfl, ?_, ?_, ?_⟩
    · simp only [S.er, Hde.out]
    · simp only [World.size_setCell]
      exact ((((((Hown.out.far (by simp) _).far (by simp) _).far (by simp) _).far (by simp) _).far (by simp) _).far (by simp) _).wide (by omega) (Nat.le_refl _)
    · exact (((((bb2.setCell (by simp; omega) _).setCell (by simp) _).setCell (by simp) _).setCell (by simp) _).setCell (by simp) _).setCell (by simp) _
end Go.Proofs.YtnldlbglgalbaabGreat

namespace Go.Proofs.YtnldlbglgalbaabGreat
open Go.RowKit

def SEqOk (m : Nat) : Prop := ∀ (d e : S) (B : Nat) (w : World), d.size ≤ m → d.In w B → e.In w B → B ≤ w.heap.size →
    Calls Tryz.prog 19 #[d.val, e.val] w fun x w' => x = .returned (.bool (S.eqB d e)) ∧ Below w.heap.size w w'
def SEqLOk (m : Nat) : Prop := ∀ (k n : Int) (t : ByteArray) (sa : Option Addr) (sc : Nat) (s : List Int) (A : Option Addr) (c : Nat) (l : List S) (k' n' : Int) (t' : ByteArray) (sa' : Option Addr) (sc' : Nat) (s' : List Int) (A' : Option Addr) (c' : Nat) (l' : List S) (B : Nat) (w : World), S.sizeL l ≤ m →
    (S.mk k n t sa sc s A c l).In w B → (S.mk k' n' t' sa' sc' s' A' c' l').In w B → B ≤ w.heap.size →
    Calls Tryz.prog 18 #[.slice A l.length c, .slice A' l'.length c'] w fun x w' => x = .returned (.bool (S.eqL l l')) ∧ Below w.heap.size w w'

set_option maxHeartbeats 800000 in
theorem seq_any (m : Nat) (hL : SEqLOk m) : SEqOk (m + 1) := by
  intro d e B w hm hin hin' hB
  obtain ⟨k, n, t, sa, sc, s, A, c, l⟩ := d
  obtain ⟨k', n', t', sa', sc', s', A', c', l'⟩ := e
  have hcap := hin.cap
  have hcap' := hin'.cap
  have hsc := hin.scopes
  have hsc' := hin'.scopes
  simp only [S.l, S.c, S.t] at hcap hcap'
  simp only [S.sa, S.sc, S.s] at hsc hsc'
  simp only [S.val, S.k, S.n, S.t, S.sa, S.sc, S.s, S.A, S.l, S.c]
  have hmm : S.sizeL l ≤ m := by simp only [S.size] at hm; omega
  have hfin : S.eqB (.mk k n t sa sc s A c l) (.mk k' n' t' sa' sc' s' A' c' l') = (k == k' && (n == n' && (t.toList == t'.toList && (s == s' && S.eqL l l')))) := rfl
  have Hfin := Lib.hid hfin
  clear hfin
  by_cases hk : k = k'
  · by_cases hn : n = n'
    · subst hk hn
      cases ht : (t.toList == t'.toList)
      · have Ht := Lib.hid ht
        go_enter Tryz.func19, Tryz.ntmps19
        go_wp2_with fail
        go_ret
        exact ⟨ret_bool (by rw [Hfin.out, Ht.out]; simp), ((Below.refl _ _).alloc (Nat.le_refl _) _).alloc (by simp) _⟩
      · have Ht := Lib.hid ht
        go_enter Tryz.func19, Tryz.ntmps19
        go_wp2_with fail
        refine (eqI_any sa sc s sa' sc' s' B _ ((hsc.alloc hB _).alloc (by simp; omega) _) ((hsc'.alloc hB _).alloc (by simp; omega) _) (by simp; omega)).mono ?_
        rintro e w0 ⟨rfl, hb0⟩
        have z0 := hb0.size
        simp only [World.size_alloc] at z0 hb0
        have x0 := (S.Box.new w (.mk k n t sa sc s A c l) 43).below (w' := w0) (B := w.heap.size + 1) (((Below.refl _ _).alloc (by simp) _).trans (hb0.mono (by omega))) (by omega)
        have hy : (w.alloc (.cells #[.int .i64 k, .int .i64 n, .string t, .slice sa s.length sc, .slice A l.length c] 43)).heap.size = w.heap.size + 1 := by simp
        have x1 := (S.Box.new (w.alloc (.cells #[.int .i64 k, .int .i64 n, .string t, .slice sa s.length sc, .slice A l.length c] 43)) (.mk k n t' sa' sc' s' A' c' l') 43).below (w' := w0) (B := w.heap.size + 1 + 1) hb0 (by rw [hy]; omega)
        rw [hy] at x1
        have g4 : w0.cell? ⟨w.heap.size, 4, none⟩ = some (.slice A l.length c) := x0.c4
        have g4' : w0.cell? ⟨w.heap.size + 1, 4, none⟩ = some (.slice A' l'.length c') := x1.c4
        have bb : Below w.heap.size w w0 := (((Below.refl _ _).alloc (Nat.le_refl _) _).alloc (by simp) _).trans (hb0.mono (by omega))
        clear x0 x1 hb0 hy
        cases hs : (s == s')
        · have Hs := Lib.hid hs
          clear hs
          go_wp2_with fail
          go_ret
          exact ⟨ret_bool (by rw [Hfin.out, Ht.out, Hs.out]; simp), bb⟩
        · have Hs := Lib.hid hs
          clear hs
          go_wp2_with fail
          refine (hL k n t sa sc s A c l k n t' sa' sc' s' A' c' l' B _ hmm (hin.below (bb.mono hB)) (hin'.below (bb.mono hB)) (by omega)).mono ?_
          rintro e w1 ⟨rfl, hb1⟩
          have hb : Below w.heap.size w w1 := bb.trans (hb1.mono (by omega))
          cases hq : S.eqL l l'
          · go_wp2_with fail
            go_ret
            exact ⟨ret_bool (by rw [Hfin.out, Ht.out, Hs.out, hq]; simp), hb⟩
          · go_wp2_with fail
            go_ret
            exact ⟨ret_bool (by rw [Hfin.out, Ht.out, Hs.out, hq]; simp), hb⟩
    · subst hk
      have h1 : (n != n') = true := by simpa using hn
      have h2 : (n == n') = false := by simpa using hn
      have H2 := Lib.hid h2
      clear h2
      go_enter Tryz.func19, Tryz.ntmps19
      go_wp2_with fail
      go_ret
      exact ⟨ret_bool (by rw [Hfin.out, H2.out]; simp), ((Below.refl _ _).alloc (Nat.le_refl _) _).alloc (by simp) _⟩
  · have h1 : (k != k') = true := by simpa using hk
    have h2 : (k == k') = false := by simpa using hk
    have H2 := Lib.hid h2
    clear h2
    go_enter Tryz.func19, Tryz.ntmps19
    go_wp2_with fail
    go_ret
    exact ⟨ret_bool (by rw [Hfin.out, H2.out]; simp), ((Below.refl _ _).alloc (Nat.le_refl _) _).alloc (by simp) _⟩

theorem seqL_take (l l' : List S) (j : Nat) (h : j < l.length) (h' : j < l'.length) (ht : S.eqL (l.take j) (l'.take j) = true) : S.eqL l l' = (S.eqB l[j] l'[j] && S.eqL (l.drop (j + 1)) (l'.drop (j + 1))) := by
  induction j generalizing l l' with
  | zero =>
    match l, l' with
    | [], _ => simp at h
    | _ :: _, [] => simp at h'
    | a :: r, b :: s => simp [S.eqL]
  | succ j ih =>
    match l, l' with
    | [], _ => simp at h
    | _ :: _, [] => simp at h'
    | a :: r, b :: s =>
      simp [S.eqL] at ht h h' ⊢
      rw [ht.1, ih r s h h' ht.2]
      simp
theorem seqL_take_succ (l l' : List S) (j : Nat) (h : j < l.length) (h' : j < l'.length) : S.eqL (l.take (j + 1)) (l'.take (j + 1)) = (S.eqL (l.take j) (l'.take j) && S.eqB l[j] l'[j]) := by
  induction j generalizing l l' with
  | zero =>
    match l, l' with
    | [], _ => simp at h
    | _ :: _, [] => simp at h'
    | a :: r, b :: s => simp [S.eqL]
  | succ j ih =>
    match l, l' with
    | [], _ => simp at h
    | _ :: _, [] => simp at h'
    | a :: r, b :: s =>
      simp at h h'
      have := ih r s h h'
      simp [S.eqL] at this ⊢
      rw [this, Bool.and_assoc]
theorem seqL_length (l l' : List S) (h : l.length ≠ l'.length) : S.eqL l l' = false := by
  induction l generalizing l' with
  | nil => cases l' with
    | nil => simp at h
    | cons _ _ => rfl
  | cons a r ih => cases l' with
    | nil => rfl
    | cons b s =>
      simp at h
      simp [S.eqL, ih s h]

set_option maxHeartbeats 800000 in
theorem seqL_step (m : Nat) (ih : SEqOk m) : SEqLOk m := by
  intro k n t sa sc s A c l k' n' t' sa' sc' s' A' c' l' B w hm hin hin' hB
  have hcap := hin.cap
  have hcap' := hin'.cap
  simp only [S.l, S.c, S.t] at hcap hcap'
  by_cases hlen : l.length = l'.length
  · have hn1 : ((l.length : Int) != (l'.length : Int)) = false := by simp [hlen]
    have Hlen := Lib.hid hlen
    have hlen1 : l'.length ≤ l.length := by omega
    have hlen2 : l.length ≤ l'.length := by omega
    clear hlen
    go_enter Tryz.func18, Tryz.ntmps18
    go_wp2_with fail
    go_loopw [5] (fun i wr => ∃ j : Nat, j ≤ l.length ∧ i = .int .i64 j ∧ Hid (S.eqL (l.take j) (l'.take j) = true) ∧ Below w.heap.size w wr) (fun i _ => l.length - (intOf i).toNat)
    case atStart => exact ⟨0, Nat.zero_le _, rfl, by simp [Hid, S.eqL], Below.refl _ _⟩
    case round =>
      obtain ⟨j, hj, rfl, HE, hb⟩ := hrel
      by_cases hlt : j < l.length
      · have hlt' : j < l'.length := by omega
        obtain ⟨b, o, rfl, hblk, c0, c1, c2, c3, c4, hix⟩ := (hin.below (hb.mono hB)).at_ (i := j) (x := l[j]) (List.getElem?_eq_getElem hlt)
        obtain ⟨b', o', rfl, hblk', c0', c1', c2', c3', c4', hix'⟩ := (hin'.below (hb.mono hB)).at_ (i := j) (x := l'[j]) (List.getElem?_eq_getElem hlt')
        have hs2 := hb.size
        have hsz := S.sizeL_mem (l := l) (List.getElem_mem hlt)
        have g1 : (0 : Int) ≤ (j : Int) := by omega
        have g2 : (j : Int) < (l.length : Int) := by omega
        have g3 : (j : Int) < (l'.length : Int) := by omega
        go_wp2_with fail
        go_region_held3 (fun w' => w'.cell? ⟨b, o + j * 5, none⟩ = some (.int .i64 l[j].k) ∧ w'.cell? ⟨b, o + j * 5 + 1, none⟩ = some (.int .i64 l[j].n) ∧ w'.cell? ⟨b, o + j * 5 + 2, none⟩ = some (.string l[j].t) ∧ w'.cell? ⟨b, o + j * 5 + 3, none⟩ = some (.slice l[j].sa l[j].s.length l[j].sc) ∧ w'.cell? ⟨b, o + j * 5 + 4, none⟩ = some (.slice l[j].A l[j].l.length l[j].c) ∧ w'.cell? ⟨b', o' + j * 5, none⟩ = some (.int .i64 l'[j].k) ∧ w'.cell? ⟨b', o' + j * 5 + 1, none⟩ = some (.int .i64 l'[j].n) ∧ w'.cell? ⟨b', o' + j * 5 + 2, none⟩ = some (.string l'[j].t) ∧ w'.cell? ⟨b', o' + j * 5 + 3, none⟩ = some (.slice l'[j].sa l'[j].s.length l'[j].sc) ∧ w'.cell? ⟨b', o' + j * 5 + 4, none⟩ = some (.slice l'[j].A l'[j].l.length l'[j].c)) (go_keep)
          ((go_at_call 19; refine (ih l[j] l'[j] B _ ?_ ?_ ?_ ?_).mono ?_; omega; exact hix.drew; exact hix'.drew; (show B ≤ wr.heap.size); omega; rintro e w1 ⟨rfl, hb1⟩; have q1 : b < wr.heap.size := (by omega); have q2 : b' < wr.heap.size := (by omega); have a0 := (hb1.cell (p := ⟨b, o + j * 5, none⟩) q1).trans c0; have a1 := (hb1.cell (p := ⟨b, o + j * 5 + 1, none⟩) q1).trans c1; have a2 := (hb1.cell (p := ⟨b, o + j * 5 + 2, none⟩) q1).trans c2; have a3 := (hb1.cell (p := ⟨b, o + j * 5 + 3, none⟩) q1).trans c3; have a4 := (hb1.cell (p := ⟨b, o + j * 5 + 4, none⟩) q1).trans c4; have a0' := (hb1.cell (p := ⟨b', o' + j * 5, none⟩) q2).trans c0'; have a1' := (hb1.cell (p := ⟨b', o' + j * 5 + 1, none⟩) q2).trans c1'; have a2' := (hb1.cell (p := ⟨b', o' + j * 5 + 2, none⟩) q2).trans c2'; have a3' := (hb1.cell (p := ⟨b', o' + j * 5 + 3, none⟩) q2).trans c3'; have a4' := (hb1.cell (p := ⟨b', o' + j * 5 + 4, none⟩) q2).trans c4'))
        have hb2 : Below w.heap.size w w1 := hb.trans ((below_undrew hb1).mono (show w.heap.size ≤ wr.heap.size by omega))
        cases hq : S.eqB l[j] l'[j]
        · have Hq := Lib.hid hq
          go_wp2_with fail
          go_ret
          exact ⟨ret_bool (by rw [seqL_take l l' j hlt hlt' HE.out, Hq.out]; rfl), hb2⟩
        · have Hq := Lib.hid hq
          go_wp2_with fail
          go_roundw
          case rel => exact ⟨j + 1, by omega, by go_num, by (show _ = _); rw [seqL_take_succ l l' j hlt hlt', HE.out, Hq.out]; rfl, hb2⟩
          case measure => simp [intOf]; omega
      · have hj' : j = l.length := by omega
        subst hj'
        go_wp2_with fail
        go_ret
        exact ⟨ret_bool (by have := HE.out; rwa [List.take_length, List.take_of_length_le (by omega), eq_comm] at this), hb⟩
  · have hn1 : ((l.length : Int) != (l'.length : Int)) = true := by simpa using (by omega : ¬ (l.length : Int) = (l'.length : Int))
    have Hn := Lib.hid (seqL_length l l' hlen)
    go_enter Tryz.func18, Tryz.ntmps18
    go_wp2_with fail
    go_ret
    exact ⟨ret_bool Hn.out.symm, Below.refl _ _⟩
theorem seqL_all : ∀ m, SEqLOk m := by
  intro m
  induction m with
  | zero =>
    intro k n t sa sc s A c l k' n' t' sa' sc' s' A' c' l' B w hm hin hin' hB
    exact seqL_step 0 (fun d e B w hd => by have := d.size_pos; omega) k n t sa sc s A c l k' n' t' sa' sc' s' A' c' l' B w hm hin hin' hB
  | succ m ih => exact seqL_step (m + 1) (seq_any m ih)
theorem seq_all (m : Nat) : SEqOk (m + 1) := seq_any m (seqL_all m)
end Go.Proofs.YtnldlbglgalbaabGreat
