/-
  The datum of a syntax object: the program.
-/
import Derived.Test.YtknplopghgchaaaSTo
import Derived.Test.YtknplopghgchaaaSNode
import Derived.Test.YtknplopghgchaaaSCount
import Derived.Test.YtknplopghgchaaaWrap
import Derived.Deep.RegionHeld3
namespace Go.Proofs.Ytknplopghgchaaa
open Go.RowKit

mutual
/-- The datum of a syntax object, without scopes. -/
def datD : S → D | .mk k n t _ _ _ _ _ l => .mk k n t none 0 (datL l)
def datL : List S → List D | [] => [] | d :: r => datD d :: datL r
end
theorem datL_map (l : List S) : datL l = l.map datD := by
  induction l with
  | nil => rfl
  | cons d r ih => simp [datL, ih]
theorem datL_append (a b : List S) : datL (a ++ b) = datL a ++ datL b := by simp [datL_map]
theorem datL_length (a : List S) : (datL a).length = a.length := by simp [datL_map]
theorem datD_er (d : S) : datD d.er = datD d := by
  induction d using S.ind with
  | h d ih =>
    cases d with
    | mk k n t sa sc s A c l =>
      have key : ∀ (a : List S), (∀ x ∈ a, x ∈ l) → datL (S.erL a) = datL a := by
        intro a
        induction a with
        | nil => intro _; rfl
        | cons x r ih2 => intro hs; have h1 := ih x (hs x (by simp)); have h2 := ih2 fun y hy => hs y (by simp [hy]); simp only [S.erL, datL, h1, h2]
      have h3 := key l (fun _ h => h)
      simp only [S.er, datD, h3]
theorem er_datD (d : S) : (datD d).er = datD d := by
  induction d using S.ind with
  | h d ih =>
    cases d with
    | mk k n t sa sc s A c l =>
      have key : ∀ (a : List S), (∀ x ∈ a, x ∈ l) → D.erL (datL a) = datL a := by
        intro a
        induction a with
        | nil => intro _; rfl
        | cons x r ih2 => intro hs; have h1 := ih x (hs x (by simp)); have h2 := ih2 fun y hy => hs y (by simp [hy]); simp only [D.erL, datL, h1, h2]
      have h3 := key l (fun _ h => h)
      simp only [D.er, datD, h3]
theorem size_datD (d : S) : (datD d).size = d.size := by
  induction d using S.ind with
  | h d ih =>
    cases d with
    | mk k n t sa sc s A c l =>
      have key : ∀ (a : List S), (∀ x ∈ a, x ∈ l) → D.sizeL (datL a) = S.sizeL a := by
        intro a
        induction a with
        | nil => intro _; rfl
        | cons x r ih2 => intro hs; have h1 := ih x (hs x (by simp)); have h2 := ih2 fun y hy => hs y (by simp [hy]); simp only [D.sizeL, S.sizeL, datL, h1, h2]
      have h3 := key l (fun _ h => h)
      simp only [D.size, S.size, datD, h3]
theorem bulk_datD (d : S) : (datD d).bulk ≤ d.bulk := by
  induction d using S.ind with
  | h d ih =>
    cases d with
    | mk k n t sa sc s A c l =>
      have key : ∀ (a : List S), (∀ x ∈ a, x ∈ l) → D.bulkL (datL a) ≤ S.bulkL a := by
        intro a
        induction a with
        | nil => intro _; exact Nat.le_refl _
        | cons x r ih2 => intro hs; have h1 := ih x (hs x (by simp)); have h2 := ih2 fun y hy => hs y (by simp [hy]); simp only [D.bulkL, S.bulkL, datL]; omega
      have h3 := key l (fun _ h => h)
      simp only [D.bulk, S.bulk, datD]; omega
theorem datD_of_er {d e : S} (h : d.er = e.er) : datD d = datD e := by rw [← datD_er d, h, datD_er]

def DatOk (m : Nat) : Prop := ∀ (d : S) (B : Nat) (w : World), d.size ≤ m → m ≤ 2000000 → d.In w B → B ≤ w.heap.size → Calls Try.prog 139 #[d.val] w (RetD (datD d) w)
set_option maxRecDepth 100000 in
set_option maxHeartbeats 1000000 in
theorem mappedSD_step (m : Nat) (ih : DatOk m) (k n : Int) (t : ByteArray) (sa : Option Addr) (sc : Nat) (s : List Int) (A : Option Addr) (c : Nat) (l : List S) (B : Nat) (w : World) (hm : S.sizeL l ≤ m) (hm2 : m ≤ 2000000) (hin : (S.mk k n t sa sc s A c l).In w B) (hB : B ≤ w.heap.size) :
    Calls Try.prog 171 #[.slice A l.length c, .func (.func 139) #[] #[]] w (RetL (datL l) w) := by
  have hcap := hin.cap
  simp only [S.l, S.c, S.t] at hcap
  have hll := S.length_le_sizeL l
  by_cases hl0 : l.length = 0
  · have e0 : ((l.length : Int) == 0) = true := by simp [hl0]
    have hn : l = [] := List.eq_nil_of_length_eq_zero hl0
    have Hn := Lib.hid hn
    clear hl0 hn
    go_enter Try.func171, Try.ntmps171
    go_wp2_with fail
    go_ret
    exact ⟨0, 0, ⟨#[]⟩, none, 0, [], rfl, by rw [Hn.out]; rfl, D.Own.no_items (Nat.zero_le _) (Nat.zero_le _), Below.refl _ _⟩
  have e0 : ((l.length : Int) == 0) = false := by simpa using hl0
  obtain ⟨i0, hi0, hz0, hz1, hz2⟩ := info_parts infoD
  have hmk := fun W => run_make_rowN (P := Try.prog) 23 25 i0 _ Try.underlying23 hi0 hz0 .i64 .i64 l.length l.length (Nat.le_refl _) (by rw [hz2]; omega) (by omega) W
  rw [hz1] at hmk
  go_enter Try.func171, Try.ntmps171
  go_wp2_with fail
  go_loopw [16] (fun i wr => ∃ j : Nat, j ≤ l.length ∧ i = .int .i64 j ∧ ∃ ds : List D, Hid (D.erL ds = datL (l.take j)) ∧ ds.length ≤ j ∧ j ≤ ds.length ∧ D.RowTo wr w.heap.size 25 l.length ds ∧ D.OwnL (w.heap.size + 1) wr.heap.size wr ds ∧ Below w.heap.size w wr) (fun i _ => l.length - (intOf i).toNat)
  case atStart => exact ⟨0, Nat.zero_le _, rfl, [], by simp [D.erL, datL, Hid], Nat.le_refl _, Nat.le_refl _, ⟨_, D.Blk.new _ _ _, by rw [size_madeCells]; omega, by simp [D.cellsL]⟩, D.OwnL.nil_, (Below.refl _ _).alloc (Nat.le_refl _) _⟩
  case round =>
    obtain ⟨j, hj, rfl, ds, HE, hd1, hd2, hrow, hown, hb⟩ := hrel
    by_cases hlt : j < l.length
    · obtain ⟨b, o, rfl, hblk, c0, c1, c2, c3, c4, hix⟩ := (hin.below (hb.mono hB)).at_ (i := j) (x := l[j]) (List.getElem?_eq_getElem hlt)
      have hs2 := hb.size
      have hsz := S.sizeL_mem (l := l) (List.getElem_mem hlt)
      have hglt : w.heap.size < wr.heap.size := by obtain ⟨cs, h, _⟩ := hrow; exact h.lt
      go_wp2_with fail
      refine (ih l[j] B _ (by omega) (by omega) (hix.alloc (by omega) _) (by simp; omega)).mono ?_
      rintro e w1 ⟨d, rfl, hde, hod, hb1⟩
      simp only [World.size_alloc] at hb1 hod
      have hq1 : Below wr.heap.size wr w1 := ((Below.refl _ _).alloc (Nat.le_refl _) _).trans (hb1.mono (by omega))
      have hod := hod.wide (lo' := wr.heap.size) (by omega) (Nat.le_refl _)
      clear hb1
      have hb1 := hq1
      clear hq1
      have hrow1 := hrow.below hb1 hglt
      obtain ⟨v0, hc0⟩ := hrow1.old (i := j * 4) (by omega)
      obtain ⟨v1, hc1⟩ := hrow1.old (i := j * 4 + 1) (by omega)
      obtain ⟨v2, hc2⟩ := hrow1.old (i := j * 4 + 2) (by omega)
      obtain ⟨v3, hc3⟩ := hrow1.old (i := j * 4 + 3) (by omega)
      have f0 := hrow1.frozen (j * 4)
      have f1 := hrow1.frozen (j * 4 + 1)
      have f2 := hrow1.frozen (j * 4 + 2)
      have f3 := hrow1.frozen (j * 4 + 3)
      have hst := hrow1.step (Nat.le_antisymm hd1 hd2) hlt d
      have Hde := Lib.hid hde
      clear hde
      simp only [D.val]
      go_wp2_with fail
      refine ⟨⟨j + 1, by omega, by go_num, ds ++ [d], ?_, by simp; omega, by simp; omega, hst, ?_, ?_⟩, by simp [intOf]; omega⟩
      · show _ = _
        rw [List.take_succ_eq_append_getElem hlt, D.erL_append, datL_append, HE.out]
        simp [D.erL, datL, Hde.out]
      · have h1 : D.OwnL (w.heap.size + 1) w1.heap.size w1 (ds ++ [d]) := hown.snoc hb1 hod hb1.size (by omega)
        simp only [World.size_setCell]
        exact (((h1.far (by simp) _).far (by simp) _).far (by simp) _).far (by simp) _
      · exact ((((hb.trans (hb1.mono (by omega))).setCell (by simp) _).setCell (by simp) _).setCell (by simp) _).setCell (by simp) _
    · have hj' : j = l.length := by omega
      go_wp2_with fail
      go_ret
      have hj'' : ds.length = l.length := by omega
      subst hj'
      obtain ⟨cs, hB1, hcs, hcells⟩ := hrow
      have HE' := HE.out
      rw [List.take_length] at HE'
      refine ⟨0, 0, ⟨#[]⟩, some ⟨w.heap.size, 0, none⟩, l.length, ds, ret_sl hj''.symm, HE', ?_, hb⟩
      exact D.Own.of_row (hown.wide (by omega) (Nat.le_refl _)) ⟨by omega, by unfold maxLen; omega, Nat.zero_le _⟩ (fun hm => by have := hown.lo_ _ hm; omega) (Nat.le_refl _) hB1.lt (fun o => hB1.frozen o) (fun j u hu => by rw [hB1.cell]; exact hcells j u hu)


set_option maxRecDepth 100000 in
set_option maxHeartbeats 1000000 in
theorem implDat_any : ∀ m, DatOk m := by
  intro m
  induction m with
  | zero => intro d B w h; have := d.size_pos; omega
  | succ m ih =>
    intro d B w hm hm2 hin hB
    obtain ⟨k, n, t, sa, sc, s, A, c, l⟩ := d
    have hcap := hin.cap
    simp only [S.l, S.c, S.t] at hcap
    simp only [S.val, S.k, S.n, S.t, S.sa, S.sc, S.s, S.A, S.l, S.c]
    have hmm : S.sizeL l ≤ m := by simp only [S.size] at hm; omega
    obtain ⟨W1, hW1⟩ : ∃ W1, W1 = w.alloc (.cells #[.int .i64 k, .int .i64 n, .string t, .slice sa s.length sc, .slice A l.length c] 63) := ⟨_, rfl⟩
    obtain ⟨W2, hW2⟩ : ∃ W2, W2 = W1.alloc (.cells #[.int .i64 0, .int .i64 0, .string ⟨#[]⟩, .slice none 0 0] 25) := ⟨_, rfl⟩
    have z1 : W1.heap.size = w.heap.size + 1 := by rw [hW1]; simp
    have z2 : W2.heap.size = w.heap.size + 1 + 1 := by rw [hW2]; simp [z1]
    have B1 : Below w.heap.size w W1 := by rw [hW1]; exact (Below.refl _ _).alloc (Nat.le_refl _) _
    have B2 : Below W1.heap.size W1 W2 := by rw [hW2]; exact (Below.refl _ _).alloc (Nat.le_refl _) _
    have x0 : S.Box W1 w.heap.size (.mk k n t sa sc s A c l) := by rw [hW1]; exact S.Box.new w (.mk k n t sa sc s A c l) _
    have r0 : D.Box W2 (w.heap.size + 1) (.mk 0 0 ⟨#[]⟩ none 0 []) := by rw [hW2, ← z1]; exact D.Box.new W1 (.mk 0 0 ⟨#[]⟩ none 0 []) _
    have rf : Free W2 (w.heap.size + 1) := by rw [hW2, ← z1]; exact Free.new _ _ _
    have x0 := x0.below B2 (by omega)
    have b3 : Below w.heap.size w W2 := B1.trans (B2.mono (by omega))
    obtain ⟨p0, p1, p2, p3, p4⟩ := x0
    simp only [S.k, S.n, S.t, S.sa, S.sc, S.s, S.A, S.c] at p0 p1 p2 p3 p4
    have el : (S.mk k n t sa sc s A c l).l = l := rfl
    rw [el] at p4
    go_enter Try.func139, Try.ntmps139
    go_wp2_with fail
    rw [← hW1, ← hW2]
    clear hW1 hW2 B1 B2
    refine (nodeDatum_any k n t sa sc s.length A c l.length _).mono ?_
    rintro e w1 ⟨rfl, hb1⟩
    have zz := hb1.size
    have zlt : w.heap.size < W2.heap.size := by omega
    have p4 := (hb1.cell (p := ⟨w.heap.size, 4, none⟩) zlt).trans p4
    have r1 := r0.below hb1 (by omega)
    have rf1 := rf.below hb1 (by omega)
    have b4 := b3.trans (hb1.mono (by omega))
    obtain ⟨W3, hW3⟩ : ∃ W3, W3 = w1.alloc (.cells #[.int .i64 k, .int .i64 n, .string t, .slice none 0 0] 25) := ⟨_, rfl⟩
    have z3 : W3.heap.size = w1.heap.size + 1 := by rw [hW3]; simp
    have B3 : Below w1.heap.size w1 W3 := by rw [hW3]; exact (Below.refl _ _).alloc (Nat.le_refl _) _
    have y0 : D.Box W3 w1.heap.size (.mk k n t none 0 []) := by rw [hW3]; exact D.Box.new w1 (.mk k n t none 0 []) _
    have yf : Free W3 w1.heap.size := by rw [hW3]; exact Free.new _ _ _
    have p4' := (B3.cell (p := ⟨w.heap.size, 4, none⟩) (show w.heap.size < w1.heap.size by omega)).trans p4
    have r1 := r1.below B3 (by omega)
    have rf1 := rf1.below B3 (by omega)
    have b4 := b4.trans (B3.mono (by omega))
    have hi3 := hin.below (b4.mono hB)
    have plt : w.heap.size < w1.heap.size := by omega
    clear hb1 r0 rf p0 p1 p2 p3
    go_wp2_with fail
    rw [← hW3]
    clear hW3 B3 p4
    refine (mappedSD_step m ih k n t sa sc s A c l B _ hmm (by omega) hi3 (by omega)).mono ?_
    rintro e w2 ⟨k', n', t', A', c', l', rfl, hde, hod, hb2⟩
    have zz2 := hb2.size
    obtain ⟨s0, s1, s2, s3⟩ := r1.below hb2 (by omega)
    have rf2 := rf1.below hb2 (by omega)
    have h0 := rf2.fr 0
    have h1 := rf2.fr 1
    have h2 := rf2.fr 2
    have h3 := rf2.fr 3
    obtain ⟨q0, q1, q2, q3⟩ := y0.below hb2 (by omega)
    have yf2 := yf.below hb2 (by omega)
    have g3 := yf2.fr 3
    have bb := b4.trans (hb2.mono (by omega))
    have Hde := Lib.hid hde
    clear hde hb2 p4' r1 rf1 b4 hi3
    simp only [D.k, D.n, D.t, D.A, D.l, D.c] at q0 q1 q2 q3 s0 s1 s2 s3
    go_wp2_with fail
    refine bodyPost_ret (v := .agg #[.int .i64 k, .int .i64 n, .string t, .slice A' l'.length c']) (by simp [results, Try.results139, go_sem, s0, s1, s2, s3]) rfl ⟨.mk k n t A' c' l', rfl, ?_, ?_, ?_⟩
    · simp only [D.er, datD, Hde.out]
    · have hown : D.Own W3.heap.size w2.heap.size w2 (.mk k n t A' c' l') := hod.head hcap.2.2
      simp only [World.size_setCell]
      exact (((((hown.far (by simp; omega) _).far (by simp; omega) _).far (by simp; omega) _).far (by simp; omega) _).far (by simp; omega) _).wide (by omega) (Nat.le_refl _)
    · exact ((((bb.setCell (by simp; omega) _).setCell (by simp) _).setCell (by simp) _).setCell (by simp) _).setCell (by simp) _
end Go.Proofs.Ytknplopghgchaaa
