/-
  Copies of bindings: the program's.
-/
import Derived.Test.YtikjipkhebedfaaBRow
import Derived.Test.YtikjipkhebedfaaScSets
namespace Go.Proofs.Ytikjipkhebedfaa
open Go.RowKit

set_option maxRecDepth 100000 in
set_option maxHeartbeats 1000000 in
theorem copyBd_any (b : Bd) (B : Nat) (w : World) (hs : b.s.length ≤ 2000000) (hin : b.In w B) (hB : B ≤ w.heap.size) : Calls Try.prog 77 #[b.val] w (RetBd b.er w) := by
  obtain ⟨t, sa, sc, s, k, n⟩ := b
  have hcap := hin.2.cap
  have ht := hin.1
  simp only at hcap ht hs
  obtain ⟨W1, hW1⟩ : ∃ W1, W1 = w.alloc (.cells #[.string t, .slice sa s.length sc, .int .i64 k, .int .i64 n] 43) := ⟨_, rfl⟩
  obtain ⟨W2, hW2⟩ : ∃ W2, W2 = W1.alloc (.cells #[.string ⟨#[]⟩, .slice none 0 0, .int .i64 0, .int .i64 0] 43) := ⟨_, rfl⟩
  have z1 : W1.heap.size = w.heap.size + 1 := by rw [hW1]; simp
  have B1 : Below w.heap.size w W1 := by rw [hW1]; exact (Below.refl _ _).alloc (Nat.le_refl _) _
  have z2 : W2.heap.size = w.heap.size + 1 + 1 := by rw [hW2]; simp [z1]
  have B2 : Below W1.heap.size W1 W2 := by rw [hW2]; exact (Below.refl _ _).alloc (Nat.le_refl _) _
  have x0 : Bd.Box W1 w.heap.size ⟨t, sa, sc, s, k, n⟩ := by rw [hW1]; exact Bd.Box.new w ⟨t, sa, sc, s, k, n⟩ _
  have x0 := x0.below B2 (by omega)
  have xf : Free W1 w.heap.size := by rw [hW1]; exact Free.new _ _ _
  have xf := xf.below B2 (by omega)
  have r0 : Bd.Box W2 (w.heap.size + 1) ⟨⟨#[]⟩, none, 0, [], 0, 0⟩ := by rw [hW2, ← z1]; exact Bd.Box.new W1 ⟨⟨#[]⟩, none, 0, [], 0, 0⟩ _
  have rf : Free W2 (w.heap.size + 1) := by rw [hW2, ← z1]; exact Free.new _ _ _
  have bb : Below w.heap.size w W2 := B1.trans (B2.mono (by omega))
  have hi3 := hin.below (bb.mono hB)
  have x0q := x0
  obtain ⟨a0, a1, a2, a3⟩ := x0q
  simp only [Bd.val]
  go_enter Try.func77, Try.ntmps77
  go_wp2_with fail
  rw [← hW1, ← hW2]
  clear hW1 hW2 B1 B2 a0 a1 a2 a3
  refine (copyScopes_any sa sc s B _ hs hi3.2 (by omega)).mono ?_
  rintro e w1 ⟨A', c', rfl, ho, hb1⟩
  have zz := hb1.size
  obtain ⟨a0, a1, a2, a3⟩ := x0.below hb1 (by omega)
  obtain ⟨s0, s1, s2, s3⟩ := r0.below hb1 (by omega)
  have rf1 := rf.below hb1 (by omega)
  have h0 := rf1.fr 0
  have h1 := rf1.fr 1
  have h2 := rf1.fr 2
  have h3 := rf1.fr 3
  have xf1 := xf.below hb1 (by omega)
  have g1 := xf1.fr 1
  have b1 := bb.trans (hb1.mono (by omega))
  have ho := ho.wide (lo' := w.heap.size + 1 + 1) (by omega) (Nat.le_refl _)
  clear hb1 x0 r0 rf xf hi3 bb
  simp only [List.length_nil] at s1
  go_wp2_with fail
  refine bodyPost_ret (v := .agg #[.string t, .slice A' s.length c', .int .i64 k, .int .i64 n]) (by simp [results, Try.results77, go_sem, s0, s1, s2, s3]) rfl ⟨⟨t, A', c', s, k, n⟩, rfl, rfl, ?_, ?_⟩
  · have hown := bd_own (b := ⟨t, A', c', s, k, n⟩) ht ho
    simp only [World.size_setCell]
    exact (((((hown.far (by simp <;> omega) _).far (by simp <;> omega) _).far (by simp <;> omega) _).far (by simp <;> omega) _).far (by simp <;> omega) _).wide (by omega) (Nat.le_refl _)
  · exact ((((b1.setCell (by simp <;> omega) _).setCell (by simp <;> omega) _).setCell (by simp <;> omega) _).setCell (by simp <;> omega) _).setCell (by simp <;> omega) _

set_option maxRecDepth 100000 in
set_option maxHeartbeats 1000000 in
theorem mappedBd_any (A : Option Addr) (c : Nat) (l : List Bd) (B : Nat) (w : World) (hbk : Bd.bulkL l ≤ 2000000) (hin : Bd.E.LIn w B A c l) (hB : B ≤ w.heap.size) :
    Calls Try.prog 131 #[.slice A l.length c, .func (.func 77) #[] #[]] w (RetBR (Bd.erL l) w) := by
  have hcap := hin.cap
  have hll := Bd.bulkL_len l
  obtain ⟨i0, hi0, hz0, hz1, hz2⟩ := info_parts infoB
  have hmk := fun W => run_make_rowN (P := Try.prog) 39 43 i0 _ Try.underlying39 hi0 hz0 .i64 .i64 l.length l.length (Nat.le_refl _) (by rw [hz2]; omega) (by omega) W
  rw [hz1] at hmk
  by_cases hl0 : l = []
  · subst hl0
    have n0 : ((0 : Int) == 0) = true := rfl
    simp only [List.length_nil]
    go_enter Try.func131, Try.ntmps131
    go_wp2_with fail
    go_ret
    exact ⟨none, 0, [], rfl, rfl, ⟨rfl, .inl ⟨rfl, rfl⟩⟩, ⟨by simp, by simp [Elem.blksL], by simp [Elem.blksL], by simp [Elem.blksL]⟩, by simp [Elem.blksL], Below.refl _ _⟩
  · have n0 : ((l.length : Int) == 0) = false := by
      have : 0 < l.length := List.length_pos_iff.2 hl0
      simp; omega
    have HL0 := Lib.hid hl0
    clear hl0
    go_enter Try.func131, Try.ntmps131
    go_wp2_with fail
    go_loopw [6, 7, 16] (fun _ _ i wr => ∃ j : Nat, j ≤ l.length ∧ i = .int .i64 j ∧ ∃ ds : List Bd, Hid (Bd.erL ds = Bd.erL (l.take j)) ∧ ds.length ≤ j ∧ j ≤ ds.length ∧ Bd.E.Fill wr w.heap.size 43 l.length ds ∧ Below w.heap.size w wr) (fun _ _ i _ => l.length - (intOf i).toNat)
    case atStart => exact ⟨0, Nat.zero_le _, rfl, [], by simp [Bd.erL, Hid], Nat.le_refl _, Nat.le_refl _, Elem.Fill.new w _ (by rw [size_madeCells]; show l.length * 4 = 4 * l.length; omega), (Below.refl _ _).alloc (Nat.le_refl _) _⟩
    case round =>
      obtain ⟨j, hj, rfl, ds, HE, hd1, hd2, hF, hb⟩ := hrel
      by_cases hlt : j < l.length
      · obtain ⟨b, o, rfl, hblk, c0, c1, c2, c3, hix⟩ := Bd.at_ (hin.below (hb.mono hB)) (i := j) (x := l[j]) (List.getElem?_eq_getElem hlt)
        have hs2 := hb.size
        have hbk1 := Bd.bulkL_mem (l := l) (List.getElem_mem hlt)
        have hglt : w.heap.size < wr.heap.size := hF.row.lt
        have hs1 : l[j].s.length ≤ 2000000 := by unfold Bd.bulk at hbk1; omega
        obtain ⟨W2, hW2⟩ : ∃ W2, W2 = wr.alloc (.cells #[.string l[j].t, .slice l[j].sa l[j].s.length l[j].sc, .int .i64 l[j].k, .int .i64 l[j].n] 43) := ⟨_, rfl⟩
        have bA : Below wr.heap.size wr W2 := by rw [hW2]; exact (Below.refl _ _).alloc (Nat.le_refl _) _
        have z2 : W2.heap.size = wr.heap.size + 1 := by rw [hW2]; simp
        have y0 : Bd.Box W2 wr.heap.size l[j] := by rw [hW2]; exact Bd.Box.new wr l[j] _
        obtain ⟨d0, d1, d2, d3⟩ := y0
        go_wp2_with fail
        rw [← hW2]
        clear hW2
        refine (copyBd_any l[j] B _ hs1 (hix.below (bA.mono (by omega))) (by omega)).mono ?_
        rintro e w1 ⟨d, rfl, hde, hod, hb1⟩
        have hb1 : Below wr.heap.size wr w1 := bA.trans (hb1.mono (by omega))
        have hod := hod.wide (lo' := wr.heap.size) (by omega) (Nat.le_refl _)
        have hrow1 := hF.row.below hb1 hglt
        have e4 : Bd.E.n = 4 := rfl
        obtain ⟨v0, hc0⟩ := hrow1.old (i := j * 4) (by rw [e4]; omega)
        obtain ⟨v1, hc1⟩ := hrow1.old (i := j * 4 + 1) (by rw [e4]; omega)
        obtain ⟨v2, hc2⟩ := hrow1.old (i := j * 4 + 2) (by rw [e4]; omega)
        obtain ⟨v3, hc3⟩ := hrow1.old (i := j * 4 + 3) (by rw [e4]; omega)
        have f0 := hrow1.frozen (j * 4)
        have f1 := hrow1.frozen (j * 4 + 1)
        have f2 := hrow1.frozen (j * 4 + 2)
        have f3 := hrow1.frozen (j * 4 + 3)
        have hst := hF.step hb1 hod (by omega)
        have ej : Bd.E.n * ds.length = j * 4 := by rw [e4]; omega
        rw [ej] at hst
        have Hst := Lib.hid hst
        have Hde := Lib.hid hde
        clear hde hst e4 ej hrow1 d0 d1 d2 d3
        simp only [Bd.val]
        go_wp2_with fail
        refine ⟨⟨j + 1, by omega, by go_num, ds ++ [d], ?_, by simp; omega, by simp; omega, Hst.out, ?_⟩, by simp [intOf]; omega⟩
        · show _ = _
          rw [List.take_succ_eq_append_getElem hlt, Bd.erL_append, Bd.erL_append, HE.out]
          simp [Bd.erL, Hde.out]
        · exact ((((hb.trans (hb1.mono (by omega))).setCell (by simp) _).setCell (by simp) _).setCell (by simp) _).setCell (by simp) _
      · have hj' : j = l.length := by omega
        have hj'' : ds.length = l.length := by omega
        subst hj'
        have hdone := fill_row hF hj'' (by omega)
        have HE' := HE.out
        rw [List.take_length] at HE'
        have HR := Lib.hid HE'
        have HL := Lib.hid hj''
        clear hj'' HE'
        go_wp2_with fail
        go_ret
        exact ⟨some ⟨w.heap.size, 0, none⟩, l.length, ds, ret_sl HL.out.symm, HR.out, hdone.1, hdone.2.1, hdone.2.2, hb⟩

theorem copyBL_any (A : Option Addr) (c : Nat) (l : List Bd) (B : Nat) (w : World) (hbk : Bd.bulkL l ≤ 2000000) (hin : Bd.E.LIn w B A c l) (hB : B ≤ w.heap.size) :
    Calls Try.prog 76 #[.slice A l.length c] w (RetBR (Bd.erL l) w) := by
  go_enter Try.func76, Try.ntmps76
  go_wp2_with fail
  refine (mappedBd_any A c l B _ hbk hin hB).mono ?_
  rintro e w1 ⟨A', c', l', rfl, he, ho1, ho2, ho3, hb1⟩
  have HE := Lib.hid he
  clear he
  go_wp2_with fail
  go_ret
  exact ⟨A', c', l', rfl, HE.out, ho1, ho2, ho3, hb1⟩
end Go.Proofs.Ytikjipkhebedfaa
