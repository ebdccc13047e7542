/-
  The program's copies of data; ListDatum.
-/
import Derived.Test.YtfbfmajjooannaaTrees
namespace Go.Proofs.Ytfbfmajjooannaa
open Go.RowKit

def CpOk (m : Nat) : Prop := ∀ (d : D) (B : Nat) (w : World), d.size ≤ m → m ≤ 2000000 → d.In w B → B ≤ w.heap.size → Calls Try.prog 151 #[d.val] w (RetD d.er w)
def CpLOk (m : Nat) : Prop := ∀ (k n : Int) (t : ByteArray) (A : Option Addr) (c : Nat) (l : List D) (B : Nat) (w : World), D.sizeL l ≤ m → m ≤ 2000000 → (D.mk k n t A c l).In w B → B ≤ w.heap.size →
    Calls Try.prog 162 #[.slice A l.length c] w (RetL (D.erL l) w)

set_option maxHeartbeats 400000 in
theorem cpL_step (m : Nat) (ih : CpOk m) : CpLOk m := by
  intro k n t A c l B w hm hm2 hin hB
  have hcap := hin.cap
  simp only [D.l, D.c, D.t] at hcap
  have hll := D.length_le_sizeL l
  by_cases hl0 : l.length = 0
  · have e0 : ((l.length : Int) == 0) = true := by simp [hl0]
    have hn : l = [] := List.eq_nil_of_length_eq_zero hl0
    have Hn := Lib.hid hn
    clear hl0 hn
    go_enter Try.func162, Try.ntmps162
    go_wp2_with fail
    go_ret
    exact ⟨0, 0, ⟨#[]⟩, none, 0, [], rfl, by rw [Hn.out], D.Own.no_items (Nat.zero_le _) (Nat.zero_le _), Below.refl _ _⟩
  have e0 : ((l.length : Int) == 0) = false := by simpa using hl0
  obtain ⟨i0, hi0, hz0, hz1, hz2⟩ := info_parts infoD
  have hmk := fun W => run_make_rowN (P := Try.prog) 48 50 i0 _ Try.underlying48 hi0 hz0 .i64 .i64 l.length l.length (Nat.le_refl _) (by rw [hz2]; omega) (by omega) W
  rw [hz1] at hmk
  go_enter Try.func162, Try.ntmps162
  go_wp2_with fail
  go_loopw [14] (fun i wr => ∃ j : Nat, j ≤ l.length ∧ i = .int .i64 j ∧ ∃ ds : List D, Hid (D.erL ds = D.erL (l.take j)) ∧ ds.length ≤ j ∧ j ≤ ds.length ∧ D.RowTo wr w.heap.size 50 l.length ds ∧ D.OwnL (w.heap.size + 1) wr.heap.size wr ds ∧ Below w.heap.size w wr) (fun i _ => l.length - (intOf i).toNat)
  case atStart => exact ⟨0, Nat.zero_le _, rfl, [], by simp [D.erL, Hid], Nat.le_refl _, Nat.le_refl _, ⟨_, D.Blk.new _ _ _, by rw [size_madeCells]; omega, by simp [D.cellsL]⟩, D.OwnL.nil_, (Below.refl _ _).alloc (Nat.le_refl _) _⟩
  case round =>
    obtain ⟨j, hj, rfl, ds, HE, hd1, hd2, hrow, hown, hb⟩ := hrel
    by_cases hlt : j < l.length
    · obtain ⟨b, o, rfl, hblk, c0, c1, c2, c3, hix⟩ := (hin.below (hb.mono hB)).at_ (i := j) (x := l[j]) (List.getElem?_eq_getElem hlt)
      have hs2 := hb.size
      have hsz := D.sizeL_mem (l := l) (List.getElem_mem hlt)
      have hglt : w.heap.size < wr.heap.size := by obtain ⟨cs, h, _⟩ := hrow; exact h.lt
      go_wp2_with fail
      refine (ih l[j] B _ (by omega) (by omega) (hix.alloc (by omega) _) (by simp; omega)).mono ?_
      rintro e w1 ⟨d, rfl, hde, hod, hb1⟩
      simp only [World.size_alloc] at hb1 hod
      have hq1 : Below wr.heap.size wr w1 := ((Below.refl _ _).alloc (Nat.le_refl _) _).trans (hb1.mono (by omega))
      have hod := hod.wide (lo' := wr.heap.size) (by omega) (Nat.le_refl _)
      clear hb1
      have hb1 := hq1
      clear hq1
      have hrow1 := hrow.below hb1 hglt
      obtain ⟨v0, hc0⟩ := hrow1.old (i := j * 4) (by omega)
      obtain ⟨v1, hc1⟩ := hrow1.old (i := j * 4 + 1) (by omega)
      obtain ⟨v2, hc2⟩ := hrow1.old (i := j * 4 + 2) (by omega)
      obtain ⟨v3, hc3⟩ := hrow1.old (i := j * 4 + 3) (by omega)
      have f0 := hrow1.frozen (j * 4)
      have f1 := hrow1.frozen (j * 4 + 1)
      have f2 := hrow1.frozen (j * 4 + 2)
      have f3 := hrow1.frozen (j * 4 + 3)
      have hst := hrow1.step (Nat.le_antisymm hd1 hd2) hlt d
      have Hde := Lib.hid hde
      clear hde
      simp only [D.val]
      go_wp2_with fail
      refine ⟨⟨j + 1, by omega, by go_num, ds ++ [d], ?_, by simp; omega, by simp; omega, hst, ?_, ?_⟩, by simp [intOf]; omega⟩
      · show _ = _
        rw [List.take_succ_eq_append_getElem hlt, D.erL_append, D.erL_append, HE.out]
        simp [D.erL, Hde.out]
      · have h1 : D.OwnL (w.heap.size + 1) w1.heap.size w1 (ds ++ [d]) := hown.snoc hb1 hod hb1.size (by omega)
        simp only [World.size_setCell]
        exact (((h1.far (by simp) _).far (by simp) _).far (by simp) _).far (by simp) _
      · exact ((((hb.trans (hb1.mono (by omega))).setCell (by simp) _).setCell (by simp) _).setCell (by simp) _).setCell (by simp) _
    · have hj' : j = l.length := by omega
      go_wp2_with fail
      go_ret
      have hj'' : ds.length = l.length := by omega
      subst hj'
      obtain ⟨cs, hB1, hcs, hcells⟩ := hrow
      have HE' := HE.out
      rw [List.take_length] at HE'
      refine ⟨0, 0, ⟨#[]⟩, some ⟨w.heap.size, 0, none⟩, l.length, ds, ret_sl hj''.symm, HE', ?_, hb⟩
      exact D.Own.of_row (hown.wide (by omega) (Nat.le_refl _)) ⟨by omega, by unfold maxLen; omega, Nat.zero_le _⟩ (fun hm => by have := hown.lo_ _ hm; omega) (Nat.le_refl _) hB1.lt (fun o => hB1.frozen o) (fun j u hu => by rw [hB1.cell]; exact hcells j u hu)

set_option maxHeartbeats 400000 in
theorem cp_any : ∀ m, CpOk m := by
  intro m
  induction m with
  | zero => intro d B w h; have := d.size_pos; omega
  | succ m ih =>
    intro d B w hm hm2 hin hB
    obtain ⟨k, n, t, A, c, l⟩ := d
    have hL := cpL_step m ih
    have hcap := hin.cap
    simp only [D.l, D.c, D.t] at hcap
    simp only [D.val, D.k, D.n, D.t, D.A, D.l, D.c]
    have hmm : D.sizeL l ≤ m := by simp only [D.size] at hm; omega
    go_enter Try.func151, Try.ntmps151
    go_wp2_with fail
    refine (hL k n t A c l B _ hmm (by omega) ((hin.alloc hB _).alloc (by simp; omega) _) (by simp; omega)).mono ?_
    rintro e w1 ⟨k', n', t', A', c', l', rfl, hde, hod, hb1⟩
    obtain ⟨hc, hf⟩ := bcell hb1
    have hz := hb1.size
    have x0 := ((D.Box.new w (.mk k n t A c l) 50).below ((Below.refl (w.heap.size + 1) _).alloc (by simp) (.cells #[.int .i64 0, .int .i64 0, .string ⟨#[]⟩, .slice none 0 0] 50)) (by omega)).below hb1 (by simp <;> omega)
    obtain ⟨g0, g1, g2, g3⟩ := x0
    simp only [D.k, D.n, D.t, D.A, D.l, D.c] at g0 g1 g2 g3
    simp only [World.size_alloc] at hc hf hz hod
    have Hde := Lib.hid hde
    clear hde
    go_wp2_with fail
    refine bodyPost_ret (v := .agg #[.int .i64 k, .int .i64 n, .string t, .slice A' l'.length c']) (by simp [results, Try.results151, go_sem, hc, hz]) rfl ⟨.mk k n t A' c' l', rfl, ?_, ?_, ?_⟩
    · simp only [D.er, Hde.out]
    · have h1 := (hod.head (k' := k) (n' := n) (t' := t) hcap.2.2)
      simp only [World.size_setCell]
      exact (((((h1.far (by simp <;> omega) _).far (by simp) _).far (by simp) _).far (by simp) _).far (by simp) _).wide (by omega) (Nat.le_refl _)
    · have h0 : Below w.heap.size w w1 := (((Below.refl _ _).alloc (Nat.le_refl _) _).alloc (by simp) _).trans (hb1.mono (by simp; omega))
      exact ((((h0.setCell (by simp) _).setCell (by simp) _).setCell (by simp) _).setCell (by simp) _).setCell (by simp) _
theorem cpL_any (m : Nat) : CpLOk m := cpL_step m (cp_any m)

end Go.Proofs.Ytfbfmajjooannaa
