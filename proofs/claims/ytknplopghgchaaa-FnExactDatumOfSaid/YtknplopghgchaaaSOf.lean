/-
  Syntax objects of data: the program's syntaxOf.
-/
import Derived.Test.YtknplopghgchaaaSTo
import Derived.Test.YtknplopghgchaaaSCount
import Derived.Test.YtknplopghgchaaaWrap
import Derived.Deep.RegionHeld3
namespace Go.Proofs.Ytknplopghgchaaa
open Go.RowKit

mutual
/-- The syntax object of a datum, without scopes. -/
def ofD : D → S | .mk k n t _ _ l => .mk k n t none 0 [] none 0 (ofL l)
def ofL : List D → List S | [] => [] | d :: r => ofD d :: ofL r
end
theorem ofL_map (l : List D) : ofL l = l.map ofD := by
  induction l with
  | nil => rfl
  | cons d r ih => simp [ofL, ih]
theorem ofL_append (a b : List D) : ofL (a ++ b) = ofL a ++ ofL b := by simp [ofL_map]
theorem ofL_length (a : List D) : (ofL a).length = a.length := by simp [ofL_map]
theorem ofD_er (d : D) : ofD d.er = ofD d := by
  induction d using D.ind with
  | h d ih =>
    cases d with
    | mk k n t A c l =>
      have key : ∀ (a : List D), (∀ x ∈ a, x ∈ l) → ofL (D.erL a) = ofL a := by
        intro a
        induction a with
        | nil => intro _; rfl
        | cons x r ih2 => intro hs; simp only [D.erL, ofL, ih x (hs x (by simp)), ih2 fun y hy => hs y (by simp [hy])]
      simp only [D.er, ofD, key l (fun _ h => h)]
theorem ofD_of_er {d e : D} (h : d.er = e.er) : ofD d = ofD e := by rw [← ofD_er d, h, ofD_er]
theorem er_ofD (d : D) : (ofD d).er = ofD d := by
  induction d using D.ind with
  | h d ih =>
    cases d with
    | mk k n t A c l =>
      have key : ∀ (a : List D), (∀ x ∈ a, x ∈ l) → S.erL (ofL a) = ofL a := by
        intro a
        induction a with
        | nil => intro _; rfl
        | cons x r ih2 => intro hs; simp only [S.erL, ofL, ih x (hs x (by simp)), ih2 fun y hy => hs y (by simp [hy])]
      simp only [S.er, ofD, key l (fun _ h => h)]
theorem size_ofD (d : D) : (ofD d).size = d.size := by
  induction d using D.ind with
  | h d ih =>
    cases d with
    | mk k n t A c l =>
      have key : ∀ (a : List D), (∀ x ∈ a, x ∈ l) → S.sizeL (ofL a) = D.sizeL a := by
        intro a
        induction a with
        | nil => intro _; rfl
        | cons x r ih2 => intro hs; simp only [S.sizeL, D.sizeL, ofL, ih x (hs x (by simp)), ih2 fun y hy => hs y (by simp [hy])]
      simp only [S.size, D.size, ofD, key l (fun _ h => h)]
theorem bulk_ofD (d : D) : (ofD d).bulk = d.bulk := by
  induction d using D.ind with
  | h d ih =>
    cases d with
    | mk k n t A c l =>
      have key : ∀ (a : List D), (∀ x ∈ a, x ∈ l) → S.bulkL (ofL a) = D.bulkL a := by
        intro a
        induction a with
        | nil => intro _; rfl
        | cons x r ih2 => intro hs; simp only [S.bulkL, D.bulkL, ofL, ih x (hs x (by simp)), ih2 fun y hy => hs y (by simp [hy])]
      simp only [S.bulk, D.bulk, ofD, key l (fun _ h => h), List.length_nil]
      omega

def OfOk (m : Nat) : Prop := ∀ (d : D) (B : Nat) (w : World), d.size ≤ m → m ≤ 2000000 → d.In w B → B ≤ w.heap.size → Calls Try.prog 137 #[d.val] w (RetS (ofD d) w)

set_option maxRecDepth 100000 in
set_option maxHeartbeats 1000000 in
theorem mappedDS_step (m : Nat) (ih : OfOk m) (k n : Int) (t : ByteArray) (A : Option Addr) (c : Nat) (l : List D) (B : Nat) (w : World) (hm : D.sizeL l ≤ m) (hm2 : m ≤ 2000000) (hin : (D.mk k n t A c l).In w B) (hB : B ≤ w.heap.size) :
    Calls Try.prog 169 #[.slice A l.length c, .func (.func 137) #[] #[]] w (RetSL (ofL l) w) := by
  have hcap := hin.cap
  simp only [D.l, D.c, D.t] at hcap
  have hll := D.length_le_sizeL l
  by_cases hl0 : l.length = 0
  · have e0 : ((l.length : Int) == 0) = true := by simp [hl0]
    have hn : l = [] := List.eq_nil_of_length_eq_zero hl0
    have Hn := Lib.hid hn
    clear hl0 hn
    go_enter Try.func169, Try.ntmps169
    go_wp2_with fail
    go_ret
    exact ⟨none, 0, [], rfl, by rw [Hn.out]; rfl, Nat.le_refl _, by omega, S.OwnL.nil_, fun h => absurd rfl h, Below.refl _ _⟩
  have e0 : ((l.length : Int) == 0) = false := by simpa using hl0
  obtain ⟨i0, hi0, hz0, hz1, hz2⟩ := info_parts infoS
  have hmk := fun W => run_make_rowN (P := Try.prog) 61 63 i0 _ Try.underlying61 hi0 hz0 .i64 .i64 l.length l.length (Nat.le_refl _) (by rw [hz2]; omega) (by omega) W
  rw [hz1] at hmk
  go_enter Try.func169, Try.ntmps169
  go_wp2_with fail
  go_loopw [16] (fun i wr => ∃ j : Nat, j ≤ l.length ∧ i = .int .i64 j ∧ ∃ ds : List S, Hid (S.erL ds = ofL (l.take j)) ∧ ds.length ≤ j ∧ j ≤ ds.length ∧ S.RowTo wr w.heap.size 63 l.length ds ∧ S.OwnL (w.heap.size + 1) wr.heap.size wr ds ∧ Below w.heap.size w wr) (fun i _ => l.length - (intOf i).toNat)
  case atStart => exact ⟨0, Nat.zero_le _, rfl, [], by simp [S.erL, ofL, Hid], Nat.le_refl _, Nat.le_refl _, ⟨_, D.Blk.new _ _ _, by rw [size_madeCells]; omega, by simp [S.cellsL]⟩, S.OwnL.nil_, (Below.refl _ _).alloc (Nat.le_refl _) _⟩
  case round =>
    obtain ⟨j, hj, rfl, ds, HE, hd1, hd2, hrow, hown, hb⟩ := hrel
    by_cases hlt : j < l.length
    · obtain ⟨b, o, rfl, hblk, c0, c1, c2, c3, hix⟩ := (hin.below (hb.mono hB)).at_ (i := j) (x := l[j]) (List.getElem?_eq_getElem hlt)
      have hs2 := hb.size
      have hsz := D.sizeL_mem (l := l) (List.getElem_mem hlt)
      have hglt : w.heap.size < wr.heap.size := hrow.lt
      go_wp2_with fail
      refine (ih l[j] B _ (by omega) (by omega) (hix.alloc (by omega) _) (by simp; omega)).mono ?_
      rintro e w1 ⟨d, rfl, hde, hod, hb1⟩
      simp only [World.size_alloc] at hb1 hod
      have hq1 : Below wr.heap.size wr w1 := ((Below.refl _ _).alloc (Nat.le_refl _) _).trans (hb1.mono (by omega))
      have hod := hod.wide (lo' := wr.heap.size) (by omega) (Nat.le_refl _)
      clear hb1
      have hb1 := hq1
      clear hq1
      have hrow1 := hrow.below hb1 hglt
      obtain ⟨v0, hc0⟩ := hrow1.old (i := j * 5) (by omega)
      obtain ⟨v1, hc1⟩ := hrow1.old (i := j * 5 + 1) (by omega)
      obtain ⟨v2, hc2⟩ := hrow1.old (i := j * 5 + 2) (by omega)
      obtain ⟨v3, hc3⟩ := hrow1.old (i := j * 5 + 3) (by omega)
      obtain ⟨v4, hc4⟩ := hrow1.old (i := j * 5 + 4) (by omega)
      have f0 := hrow1.frozen (j * 5)
      have f1 := hrow1.frozen (j * 5 + 1)
      have f2 := hrow1.frozen (j * 5 + 2)
      have f3 := hrow1.frozen (j * 5 + 3)
      have f4 := hrow1.frozen (j * 5 + 4)
      have hst := hrow1.step (Nat.le_antisymm hd1 hd2) hlt d
      have Hde := Lib.hid hde
      clear hde
      simp only [S.val]
      go_wp2_with fail
      refine ⟨⟨j + 1, by omega, by go_num, ds ++ [d], ?_, by simp; omega, by simp; omega, hst, ?_, ?_⟩, by simp [intOf]; omega⟩
      · show _ = _
        rw [List.take_succ_eq_append_getElem hlt, S.erL_append, ofL_append, HE.out]
        simp [S.erL, ofL, Hde.out]
      · have h1 : S.OwnL (w.heap.size + 1) w1.heap.size w1 (ds ++ [d]) := hown.snoc hb1 hod hb1.size (by omega)
        simp only [World.size_setCell]
        exact ((((h1.far (by simp) _).far (by simp) _).far (by simp) _).far (by simp) _).far (by simp) _
      · exact (((((hb.trans (hb1.mono (by omega))).setCell (by simp) _).setCell (by simp) _).setCell (by simp) _).setCell (by simp) _).setCell (by simp) _
    · have hj' : j = l.length := by omega
      go_wp2_with fail
      go_ret
      have hj'' : ds.length = l.length := by omega
      subst hj'
      have hglt : w.heap.size < wr.heap.size := hrow.lt
      obtain ⟨cs, hB1, hcs, hcells⟩ := hrow
      have HE' := HE.out
      rw [List.take_length] at HE'
      refine ⟨some ⟨w.heap.size, 0, none⟩, l.length, ds, ret_sl hj''.symm, HE', by omega, by omega, hown.wide (by omega) (Nat.le_refl _), fun _ => ⟨w.heap.size, rfl, fun hm => by have := hown.lo_ _ hm; omega, Nat.le_refl _, hglt, fun o => hB1.frozen o, fun j u hu => by rw [hB1.cell]; exact hcells j u hu⟩, hb⟩

set_option maxRecDepth 100000 in
set_option maxHeartbeats 1000000 in
theorem implOf_any : ∀ m, OfOk m := by
  intro m
  induction m with
  | zero => intro d B w h; have := d.size_pos; omega
  | succ m ih =>
    intro d B w hm hm2 hin hB
    obtain ⟨k, n, t, A, c, l⟩ := d
    have hcap := hin.cap
    simp only [D.l, D.c, D.t] at hcap
    simp only [D.val, D.k, D.n, D.t, D.A, D.l, D.c]
    have hmm : D.sizeL l ≤ m := by simp only [D.size] at hm; omega
    obtain ⟨W1, hW1⟩ : ∃ W1, W1 = w.alloc (.cells #[.int .i64 k, .int .i64 n, .string t, .slice A l.length c] 25) := ⟨_, rfl⟩
    obtain ⟨W2, hW2⟩ : ∃ W2, W2 = W1.alloc (.cells #[.int .i64 0, .int .i64 0, .string ⟨#[]⟩, .slice none 0 0, .slice none 0 0] 63) := ⟨_, rfl⟩
    have z1 : W1.heap.size = w.heap.size + 1 := by rw [hW1]; simp
    have z2 : W2.heap.size = w.heap.size + 1 + 1 := by rw [hW2]; simp [z1]
    have B1 : Below w.heap.size w W1 := by rw [hW1]; exact (Below.refl _ _).alloc (Nat.le_refl _) _
    have B2 : Below W1.heap.size W1 W2 := by rw [hW2]; exact (Below.refl _ _).alloc (Nat.le_refl _) _
    have x0 : D.Box W1 w.heap.size (.mk k n t A c l) := by rw [hW1]; exact D.Box.new w (.mk k n t A c l) _
    have r0 : S.Box W2 (w.heap.size + 1) (.mk 0 0 ⟨#[]⟩ none 0 [] none 0 []) := by rw [hW2, ← z1]; exact S.Box.new W1 (.mk 0 0 ⟨#[]⟩ none 0 [] none 0 []) _
    have rf : Free W2 (w.heap.size + 1) := by rw [hW2, ← z1]; exact Free.new _ _ _
    obtain ⟨p0, p1, p2, p3⟩ := x0.below B2 (by omega)
    simp only [D.k, D.n, D.t, D.A, D.c] at p0 p1 p2 p3
    have el : (D.mk k n t A c l).l = l := rfl
    rw [el] at p3
    have b3 : Below w.heap.size w W2 := B1.trans (B2.mono (by omega))
    have hi2 := hin.below (b3.mono hB)
    go_enter Try.func137, Try.ntmps137
    go_wp2_with fail
    rw [← hW1, ← hW2]
    clear hW1 hW2 B1 B2 x0
    go_region_held3 (fun w' => w'.cell? ⟨w.heap.size, 0, none⟩ = some (.int .i64 k) ∧ w'.cell? ⟨w.heap.size, 1, none⟩ = some (.int .i64 n) ∧ w'.cell? ⟨w.heap.size, 2, none⟩ = some (.string t) ∧ w'.cell? ⟨w.heap.size, 3, none⟩ = some (.slice A l.length c)) (go_keep) ((go_at_call 169; refine (mappedDS_step m ih k n t A c l B _ hmm (by omega) hi2.drew ?_).mono ?_; (show B ≤ W2.heap.size); omega; rintro e w1 ⟨A', c', l', rfl, hde, hl1, hl2, hod, hA, hb1⟩; have hb1 := below_undrew hb1; have hlt0 : w.heap.size < W2.heap.size := (by omega); have hlt1 : w.heap.size + 1 < W2.heap.size := (by omega); have p0' := (hb1.cell (p := ⟨w.heap.size, 0, none⟩) hlt0).trans p0; have p1' := (hb1.cell (p := ⟨w.heap.size, 1, none⟩) hlt0).trans p1; have p2' := (hb1.cell (p := ⟨w.heap.size, 2, none⟩) hlt0).trans p2; have p3' := (hb1.cell (p := ⟨w.heap.size, 3, none⟩) hlt0).trans p3; obtain ⟨s0, s1, s2, s3, s4⟩ := r0.below hb1 hlt1; have rf1 := rf.below hb1 hlt1; have h0 := rf1.fr 0; have h1 := rf1.fr 1; have h2 := rf1.fr 2; have h3 := rf1.fr 3; have h4 := rf1.fr 4; have Hde := Lib.hid hde; have HA := Lib.hid hA; clear hde hA))
    have ed : W2.drew.heap.size = W2.heap.size := rfl
    rw [ed] at hod hb1
    have zz := hb1.size
    have zq : W2.heap.size ≤ w1.heap.size := zz
    have bb := b3.trans (hb1.mono (by omega))
    have hownl := hod.wide (lo' := w.heap.size + 1 + 1) (by omega) (Nat.le_refl _)
    go_wp2_with fail
    refine bodyPost_ret (v := .agg #[.int .i64 k, .int .i64 n, .string t, .slice none 0 0, .slice A' l'.length c']) (by simp [results, Try.results137, go_sem, s0, s1, s2, s3, s4]) rfl ⟨.mk k n t none 0 [] A' c' l', rfl, ?_, ?_, ?_⟩
    · simp only [S.er, ofD, Hde.out]
    · have hown : S.Own (w.heap.size + 1 + 1) w1.heap.size w1 (.mk k n t none 0 [] A' c' l') := S.Own.of_parts (IOwn.nil_ (by omega) (fun _ => rfl)) hownl ⟨hl1, hl2, hcap.2.2⟩ (fun hne => by
        obtain ⟨g, e1, e2, e3, e4, e5, e6⟩ := HA.out hne
        exact ⟨g, e1, e2, (by rw [ed] at e3; omega), e4, e5, e6, fun b hb => by simp [iblk] at hb⟩) (fun b hb => by simp [iblk] at hb)
      simp only [World.size_setCell]
      exact (((((hown.far (by simp) _).far (by simp) _).far (by simp) _).far (by simp) _).far (by simp) _).wide (by omega) (Nat.le_refl _)
    · exact ((((bb.setCell (by simp) _).setCell (by simp) _).setCell (by simp) _).setCell (by simp) _).setCell (by simp) _
end Go.Proofs.Ytknplopghgchaaa
