/-
  Variables that differ: what areVariables asks, and what the model asks one by one. Nothing of the walks.
-/
import Derived.Test.YtnldlbglgalbaabGreatGPvA
import Derived.Test.YtnldlbglgalbaabGreatPvA
import Derived.Test.YtnldlbglgalbaabGreatTfProg
import Derived.Test.YtnldlbglgalbaabGreatSTrees
import Derived.Test.YtnldlbglgalbaabGreatSNode
import Derived.Test.YtnldlbglgalbaabGreatSCount
import Derived.Test.YtnldlbglgalbaabGreatTrees
import Derived.Test.YtnldlbglgalbaabGreatScTops
import Derived.Test.YtnldlbglgalbaabGreatSFits
import Derived.Test.YtnldlbglgalbaabGreatGSyn
namespace Go.Proofs.YtnldlbglgalbaabGreat
open Go.RowKit
namespace S
def ixP (V : List (S × Int)) (d : S) : Int := if d.k = 1 ∧ d.isDots = false then fidx (fun x : S × Int => S.eqB x.1 d) V else -1
def arePF (V : List (S × Int)) : Nat → List (S × Int) → Bool
  | _, [] => true
  | k, x :: r => (decide (x.2 ≤ 3) && decide (ixP V x.1 = k)) && arePF V (k + 1) r
def areP (V : List (S × Int)) : Bool := arePF V 0 V
theorem arePF_map (l : List (Tr Ka)) (V : List (S × Int)) (h : ∀ d e : S, d.er = e → Ka.ixL l d = ixP V e) : ∀ (k : Nat) (r : List (Tr Ka)), Ka.areVF l k r = arePF V k (r.map fun x => (x.a.N.er, x.a.dep))
  | _, [] => rfl
  | k, x :: r => by
    rw [Ka.areVF, List.map_cons, arePF, arePF_map l V h (k + 1) r, h x.a.N _ rfl]
theorem areV_pairs {l : List (Tr Ka)} {V : List (S × Int)} (h : Tr.erL Ka.er l = V.map kaOf) : Ka.areV l = areP V := by
  have hV : l.map (fun x : Tr Ka => (x.a.N.er, x.a.dep)) = V := by
    have h1 : (Tr.erL Ka.er l).map (fun x : Tr Ka => (x.a.N, x.a.dep)) = (V.map kaOf).map (fun x : Tr Ka => (x.a.N, x.a.dep)) := by rw [h]
    rw [Tr.erL_map, List.map_map, List.map_map] at h1
    have e1 : ((fun x : Tr Ka => (x.a.N, x.a.dep)) ∘ Tr.er Ka.er) = fun x : Tr Ka => (x.a.N.er, x.a.dep) := by
      funext x
      obtain ⟨a, A, c, l⟩ := x
      rfl
    have e2 : ((fun x : Tr Ka => (x.a.N, x.a.dep)) ∘ kaOf) = id := by funext x; rfl
    rw [e1, e2, List.map_id] at h1
    exact h1
  unfold Ka.areV areP
  rw [arePF_map l V (fun d e he => ?_) 0 l, hV]
  subst he
  unfold Ka.ixL ixP
  rw [k_of_er (er_er d), isDots_of_er (er_er d)]
  congr 1
  rw [← hV]
  rw [Ka.fidx_map]
  congr 1
  funext x
  exact eqB_er _ _
theorem fidx_before {α : Type} {p : α → Bool} {l : List α} {j : Nat} (h : fidx p l = j) : ∀ x ∈ l.take j, p x = false := by
  unfold fidx at h
  cases hf : l.findIdx? p with
  | none => rw [hf] at h; simp only at h; omega
  | some i =>
    rw [hf] at h
    simp only at h
    have e : i = j := by omega
    subst e
    obtain ⟨hi, _, hn⟩ := List.findIdx?_eq_some_iff_getElem.1 hf
    intro x hx
    obtain ⟨q, hq, rfl⟩ := List.mem_take_iff_getElem.1 hx
    simpa using hn q (by omega)
/-- A name of a variable. -/
def okN (x : S) : Bool := x.isI && !x.isDots
theorem samN_eq {x y : S} (hx : okN x = true) (hy : okN y = true) : samN x y = eqB y x := by
  unfold okN at hx hy
  simp only [Bool.and_eq_true, Bool.not_eq_true'] at hx hy
  have h1 := sameI_eq (e := x) hy.1
  unfold sameI at h1
  rw [hy.1, hx.1, Bool.true_and, Bool.true_and] at h1
  unfold samN
  rw [hx.2, hy.1, ← h1]
  simp
theorem arePF_eq (V : List (S × Int)) (hV : ∀ y ∈ V, okN y.1 = true) : ∀ (r out : List (S × Int)), V = out ++ r → arePF V out.length r = okFrom out r
  | [], _, _ => by rw [arePF, okFrom]
  | x :: r, out, e => by
    have hx : x ∈ V := by rw [e]; simp
    have hk := hV x hx
    have hk2 := hk
    unfold okN at hk2
    simp only [Bool.and_eq_true, Bool.not_eq_true'] at hk2
    have ih := arePF_eq V hV r (out ++ [x]) (by rw [e]; simp)
    rw [List.length_append] at ih
    have hi : decide (ixP V x.1 = out.length) = !(out.any fun y => samN x.1 y.1) := by
      have hl : out.length < V.length := by rw [e]; simp
      have hg : V[out.length] = x := by simp [e]
      have htake : V.take out.length = out := by rw [e]; simp
      unfold ixP
      rw [if_pos ⟨(isI_parts hk2.1).1, hk2.2⟩]
      cases hq : (out.any fun y => samN x.1 y.1)
      · have hn : ∀ y ∈ V.take out.length, S.eqB y.1 x.1 = false := by
          rw [htake]
          intro y hy
          rw [List.any_eq_false] at hq
          have h1 := hq y hy
          rw [samN_eq hk (hV y (by rw [e]; exact List.mem_append.2 (.inl hy)))] at h1
          simpa using h1
        rw [fidx_take hl hn (by rw [hg]; exact eqB_refl _)]
        simp
      · obtain ⟨y, hy, hs⟩ := List.any_eq_true.1 hq
        rw [samN_eq hk (hV y (by rw [e]; exact List.mem_append.2 (.inl hy)))] at hs
        rw [Bool.not_true, decide_eq_false_iff_not]
        intro hc
        have := fidx_before hc y (by rw [htake]; exact hy)
        simp [hs] at this
    rw [arePF, okFrom, hi, Bool.and_comm (decide (x.2 ≤ 3))]
    congr 1
theorem areP_eq {V : List (S × Int)} (hV : ∀ y ∈ V, okN y.1 = true) : areP V = okFrom [] V := arePF_eq V hV V [] rfl
end S
end Go.Proofs.YtnldlbglgalbaabGreat

namespace Go.Proofs.YtnldlbglgalbaabGreat
open Go.RowKit

namespace S
mutual
/-- The scopes of the symbols changed. -/
def mapS (f : List Int → List Int) : S → S | .mk k n t _ _ s _ _ l => .mk k n t none 0 (if k = 1 then f s else s) none 0 (mapSL f l)
def mapSL (f : List Int → List Int) : List S → List S | [] => [] | d :: r => mapS f d :: mapSL f r
end
theorem mapSL_map (f : List Int → List Int) (l : List S) : mapSL f l = l.map (mapS f) := by
  induction l with
  | nil => rfl
  | cons d r ih => simp [mapSL, ih]
theorem mapSL_append (f : List Int → List Int) (a b : List S) : mapSL f (a ++ b) = mapSL f a ++ mapSL f b := by simp [mapSL_map]
theorem mapS_er (f : List Int → List Int) (d : S) : mapS f d.er = mapS f d := by
  induction d using ind with
  | h d ih =>
    cases d with
    | mk k n t sa sc s A c l =>
      have key : ∀ (a : List S), (∀ x ∈ a, x ∈ l) → mapSL f (erL a) = mapSL f a := by
        intro a
        induction a with
        | nil => intro _; rfl
        | cons x r ih2 => intro hs; simp only [erL, mapSL, ih x (hs x (by simp)), ih2 fun y hy => hs y (by simp [hy])]
      simp only [er, mapS, key l (fun _ h => h)]
theorem mapS_of_er (f : List Int → List Int) {d e : S} (h : d.er = e.er) : mapS f d = mapS f e := by rw [← mapS_er f d, h, mapS_er]
theorem bulkL_get (l : List S) (j : Nat) (h : j < l.length) : l[j].bulk ≤ bulkL l := by
  have h1 := sbulkL_take_succ l j h
  have h2 := sbulkL_take_le l (j + 1)
  omega
end S
end Go.Proofs.YtnldlbglgalbaabGreat

namespace Go.Proofs.YtnldlbglgalbaabGreat
open Go.RowKit
/-- What a function of scopes answers, called in any later world. -/
def FOkC (bc : Nat) (f : List Int → List Int) (B0 : Nat) (w0 : World) : Prop :=
  ∀ (A : Option Addr) (c : Nat) (s : List Int) (B : Nat) (w : World), Below B0 w0 w → B0 ≤ w.heap.size → s.length ≤ 2000000 → IIn w B A c s → B ≤ w.heap.size → Calls Tryz.prog 186 #[.slice A s.length c] w (RetI (f s) w)
def ResOkC (bc : Nat) (f : List Int → List Int) (B0 : Nat) (w0 : World) (m : Nat) : Prop :=
  ∀ (d : S) (B : Nat) (w : World), d.size ≤ m → m ≤ 2000000 → d.bulk ≤ 2000000 → d.In w B → B ≤ w.heap.size → Below B0 w0 w → B0 ≤ w.heap.size → Calls Tryz.prog 185 #[d.val, .func (.func 186) #[] #[]] w (RetS (S.mapS f d) w)

set_option maxRecDepth 100000 in
set_option maxHeartbeats 1000000 in
theorem resc1_anyC (bc : Nat) (f : List Int → List Int) (B0 : Nat) (w0 : World) (m : Nat) (ih : ResOkC bc f B0 w0 m) (d : S) (B : Nat) (w : World) (b : Nat) (hs : d.size ≤ m) (hm : m ≤ 2000000) (hk : d.bulk ≤ 2000000) (hin : d.In w B) (hB : B ≤ w.heap.size) (h0 : Below B0 w0 w) (hB0 : B0 ≤ w.heap.size)
    (hc : w.cell? ⟨b, 0, none⟩ = some (.func (.func 186) #[] #[])) (hb : b < w.heap.size) : Calls Tryz.prog 188 #[d.val, .pointer (some ⟨b, 0, none⟩)] w (RetS (S.mapS f d) w) := by
  obtain ⟨k, n, t, sa, sc, s, A, c, l⟩ := d
  obtain ⟨W1, hW1⟩ : ∃ W1, W1 = w.alloc (.cells #[.int .i64 k, .int .i64 n, .string t, .slice sa s.length sc, .slice A l.length c] 43) := ⟨_, rfl⟩
  obtain ⟨W2, hW2⟩ : ∃ W2, W2 = W1.alloc (.cells #[.int .i64 0, .int .i64 0, .string ⟨#[]⟩, .slice none 0 0, .slice none 0 0] 43) := ⟨_, rfl⟩
  have z1 : W1.heap.size = w.heap.size + 1 := by rw [hW1]; simp
  have z2 : W2.heap.size = w.heap.size + 1 + 1 := by rw [hW2]; simp [z1]
  have B1 : Below w.heap.size w W1 := by rw [hW1]; exact (Below.refl _ _).alloc (Nat.le_refl _) _
  have B2 : Below W1.heap.size W1 W2 := by rw [hW2]; exact (Below.refl _ _).alloc (Nat.le_refl _) _
  have r0 : S.Box W2 (w.heap.size + 1) (.mk 0 0 ⟨#[]⟩ none 0 [] none 0 []) := by rw [hW2, ← z1]; exact S.Box.new W1 (.mk 0 0 ⟨#[]⟩ none 0 [] none 0 []) _
  have rf : Free W2 (w.heap.size + 1) := by rw [hW2, ← z1]; exact Free.new _ _ _
  have b3 : Below w.heap.size w W2 := B1.trans (B2.mono (by omega))
  have hi2 := hin.below (b3.mono hB)
  have h02 := h0.trans (b3.mono hB0)
  have x0 : S.Box W1 w.heap.size (.mk k n t sa sc s A c l) := by rw [hW1]; exact S.Box.new w (.mk k n t sa sc s A c l) _
  obtain ⟨p0, p1, p2, p3, p4⟩ := x0.below B2 (by omega)
  simp only [S.k, S.n, S.t, S.sa, S.sc, S.s, S.A, S.c] at p0 p1 p2 p3 p4
  have el : (S.mk k n t sa sc s A c l).l = l := rfl
  rw [el] at p4
  have hc2 := (b3.cell (p := ⟨b, 0, none⟩) hb).trans hc
  simp only [S.val, S.k, S.n, S.t, S.sa, S.sc, S.s, S.A, S.l, S.c]
  go_enter Tryz.func188, Tryz.ntmps188
  go_wp2_with fail
  rw [← hW1, ← hW2]
  clear hW1 hW2 B1 B2
  refine (ih (.mk k n t sa sc s A c l) B _ hs hm hk hi2 (by omega) h02 (by omega)).mono ?_
  rintro e w2 ⟨d, rfl, hde, hod, hb2⟩
  have zz2 := hb2.size
  obtain ⟨s0, s1, s2, s3, s4⟩ := r0.below hb2 (by omega)
  have rf2 := rf.below hb2 (by omega)
  have h0 := rf2.fr 0
  have h1 := rf2.fr 1
  have h2 := rf2.fr 2
  have h3 := rf2.fr 3
  have h4 := rf2.fr 4
  have bb2 := b3.trans (hb2.mono (by omega))
  have Hde := Lib.hid hde
  clear hde hb2
  simp only [S.val]
  go_wp2_with fail
  refine bodyPost_ret (v := .agg #[.int .i64 d.k, .int .i64 d.n, .string d.t, .slice d.sa d.s.length d.sc, .slice d.A d.l.length d.c]) (by simp [results, Tryz.results188, go_sem, s0, s1, s2, s3, s4]) rfl ⟨d, rfl, Hde.out, ?_, ?_⟩
  · have hown := hod.wide (lo' := w.heap.size + 1 + 1) (by omega) (Nat.le_refl _)
    simp only [World.size_setCell]
    exact (((((hown.far (by simp) _).far (by simp) _).far (by simp) _).far (by simp) _).far (by simp) _).wide (by omega) (Nat.le_refl _)
  · exact ((((bb2.setCell (by simp) _).setCell (by simp) _).setCell (by simp) _).setCell (by simp) _).setCell (by simp) _

set_option maxRecDepth 100000 in
set_option maxHeartbeats 1000000 in
theorem mappedSS_stepC (bc : Nat) (f : List Int → List Int) (B0 : Nat) (w0 : World) (m : Nat) (ih : ResOkC bc f B0 w0 m) (k n : Int) (t : ByteArray) (sa : Option Addr) (sc : Nat) (s : List Int) (A : Option Addr) (c : Nat) (l : List S) (B : Nat) (w : World) (b1 : Nat) (hm : S.sizeL l ≤ m) (hm2 : m ≤ 2000000) (hbk : S.bulkL l ≤ 2000000)
    (hin : (S.mk k n t sa sc s A c l).In w B) (hB : B ≤ w.heap.size) (hq0 : Below B0 w0 w) (hB0 : B0 ≤ w.heap.size) (hfc : w.cell? ⟨b1, 0, none⟩ = some (.func (.func 186) #[] #[])) (hfb : b1 < w.heap.size) :
    Calls Tryz.prog 187 #[.slice A l.length c, .func (.func 188) #[] #[.pointer (some ⟨b1, 0, none⟩)]] w (RetSL (S.mapSL f l) w) := by
  have hcap := hin.cap
  simp only [S.l, S.c, S.t] at hcap
  have hll := S.length_le_sizeL l
  by_cases hl0 : l.length = 0
  · have e0 : ((l.length : Int) == 0) = true := by simp [hl0]
    have hn : l = [] := List.eq_nil_of_length_eq_zero hl0
    have Hn := Lib.hid hn
    clear hl0 hn
    go_enter Tryz.func187, Tryz.ntmps187
    go_wp2_with fail
    go_ret
    exact ⟨none, 0, [], rfl, by rw [Hn.out]; rfl, Nat.le_refl _, by omega, S.OwnL.nil_, fun h => absurd rfl h, Below.refl _ _⟩
  have e0 : ((l.length : Int) == 0) = false := by simpa using hl0
  obtain ⟨i0, hi0, hz0, hz1, hz2⟩ := info_parts infoS
  have hmk := fun W => run_make_rowN (P := Tryz.prog) 27 43 i0 _ Tryz.underlying27 hi0 hz0 .i64 .i64 l.length l.length (Nat.le_refl _) (by rw [hz2]; omega) (by omega) W
  rw [hz1] at hmk
  go_enter Tryz.func187, Tryz.ntmps187
  go_wp2_with fail
  go_loopw [16] (fun i wr => ∃ j : Nat, j ≤ l.length ∧ i = .int .i64 j ∧ ∃ ds : List S, Hid (S.erL ds = S.mapSL f (l.take j)) ∧ ds.length ≤ j ∧ j ≤ ds.length ∧ S.RowTo wr w.heap.size 43 l.length ds ∧ S.OwnL (w.heap.size + 1) wr.heap.size wr ds ∧ Below w.heap.size w wr) (fun i _ => l.length - (intOf i).toNat)
  case atStart => exact ⟨0, Nat.zero_le _, rfl, [], by simp [S.erL, S.mapSL, Hid], Nat.le_refl _, Nat.le_refl _, ⟨_, D.Blk.new _ _ _, by rw [size_madeCells]; omega, by simp [S.cellsL]⟩, S.OwnL.nil_, (Below.refl _ _).alloc (Nat.le_refl _) _⟩
  case round =>
    obtain ⟨j, hj, rfl, ds, HE, hd1, hd2, hrow, hown, hb⟩ := hrel
    by_cases hlt : j < l.length
    · obtain ⟨b, o, rfl, hblk, c0, c1, c2, c3, c4, hix⟩ := (hin.below (hb.mono hB)).at_ (i := j) (x := l[j]) (List.getElem?_eq_getElem hlt)
      have hs2 := hb.size
      have hsz := S.sizeL_mem (l := l) (List.getElem_mem hlt)
      have hglt : w.heap.size < wr.heap.size := hrow.lt
      have hbj := S.bulkL_get l j hlt
      have hfr := (hb.cell (p := ⟨b1, 0, none⟩) hfb).trans hfc
      go_wp2_with fail
      refine (resc1_anyC bc f B0 w0 m ih l[j] B _ b1 (by omega) (by omega) (by omega) (hix.alloc (by omega) _) (by simp; omega) ((hq0.trans (hb.mono hB0)).alloc (by omega) _) (by simp; omega) ((World.cell?_alloc_lt wr _ _ (show b1 < wr.heap.size by omega)).trans hfr) (by simp; omega)).mono ?_
      rintro e w1 ⟨d, rfl, hde, hod, hb1⟩
      simp only [World.size_alloc] at hb1 hod
      have hq1 : Below wr.heap.size wr w1 := ((Below.refl _ _).alloc (Nat.le_refl _) _).trans (hb1.mono (by omega))
      have hod := hod.wide (lo' := wr.heap.size) (by omega) (Nat.le_refl _)
      clear hb1
      have hb1 := hq1
      clear hq1
      have hrow1 := hrow.below hb1 hglt
      obtain ⟨v0, hc0⟩ := hrow1.old (i := j * 5) (by omega)
      obtain ⟨v1, hc1⟩ := hrow1.old (i := j * 5 + 1) (by omega)
      obtain ⟨v2, hc2⟩ := hrow1.old (i := j * 5 + 2) (by omega)
      obtain ⟨v3, hc3⟩ := hrow1.old (i := j * 5 + 3) (by omega)
      obtain ⟨v4, hc4⟩ := hrow1.old (i := j * 5 + 4) (by omega)
      have f0 := hrow1.frozen (j * 5)
      have f1 := hrow1.frozen (j * 5 + 1)
      have f2 := hrow1.frozen (j * 5 + 2)
      have f3 := hrow1.frozen (j * 5 + 3)
      have f4 := hrow1.frozen (j * 5 + 4)
      have hst := hrow1.step (Nat.le_antisymm hd1 hd2) hlt d
      have Hde := Lib.hid hde
      clear hde
      simp only [S.val]
      go_wp2_with fail
      refine ⟨⟨j + 1, by omega, by go_num, ds ++ [d], ?_, by simp; omega, by simp; omega, hst, ?_, ?_⟩, by simp [intOf]; omega⟩
      · show _ = _
        rw [List.take_succ_eq_append_getElem hlt, S.erL_append, S.mapSL_append, HE.out]
        simp [S.erL, S.mapSL, Hde.out]
      · have h1 : S.OwnL (w.heap.size + 1) w1.heap.size w1 (ds ++ [d]) := hown.snoc hb1 hod hb1.size (by omega)
        simp only [World.size_setCell]
        exact ((((h1.far (by simp) _).far (by simp) _).far (by simp) _).far (by simp) _).far (by simp) _
      · exact (((((hb.trans (hb1.mono (by omega))).setCell (by simp) _).setCell (by simp) _).setCell (by simp) _).setCell (by simp) _).setCell (by simp) _
    · have hj' : j = l.length := by omega
      go_wp2_with fail
      go_ret
      have hj'' : ds.length = l.length := by omega
      subst hj'
      have hglt : w.heap.size < wr.heap.size := hrow.lt
      obtain ⟨cs, hB1, hcs, hcells⟩ := hrow
      have HE' := HE.out
      rw [List.take_length] at HE'
      refine ⟨some ⟨w.heap.size, 0, none⟩, l.length, ds, ret_sl hj''.symm, HE', by omega, by omega, hown.wide (by omega) (Nat.le_refl _), fun _ => ⟨w.heap.size, rfl, fun hm => by have := hown.lo_ _ hm; omega, Nat.le_refl _, hglt, fun o => hB1.frozen o, fun j u hu => by rw [hB1.cell]; exact hcells j u hu⟩, hb⟩


set_option maxRecDepth 100000 in
set_option maxHeartbeats 1000000 in
theorem resc_anyC (bc : Nat) (f : List Int → List Int) (B0 : Nat) (w0 : World) (hF : FOkC bc f B0 w0) : ∀ m, ResOkC bc f B0 w0 m := by
  intro m
  induction m with
  | zero => intro d B w h; have := d.size_pos; omega
  | succ m ih =>
    intro d B w hm hm2 hbk hin hB hq0 hB0
    obtain ⟨k, n, t, sa, sc, s, A, c, l⟩ := d
    have hcap := hin.cap
    have hsi := hin.scopes
    simp only [S.l, S.c, S.t] at hcap
    simp only [S.sa, S.sc, S.s] at hsi
    have hbl : s.length ≤ 2000000 ∧ S.bulkL l ≤ 2000000 := by simp only [S.bulk] at hbk; omega
    have hmm : S.sizeL l ≤ m := by simp only [S.size] at hm; omega
    simp only [S.val, S.k, S.n, S.t, S.sa, S.sc, S.s, S.A, S.l, S.c]
    obtain ⟨W1, hW1⟩ : ∃ W1, W1 = w.alloc (.cells #[.int .i64 k, .int .i64 n, .string t, .slice sa s.length sc, .slice A l.length c] 43) := ⟨_, rfl⟩
    obtain ⟨W2, hW2⟩ : ∃ W2, W2 = W1.alloc (.cells #[.func (.func 186) #[] #[]] 74) := ⟨_, rfl⟩
    obtain ⟨W3, hW3⟩ : ∃ W3, W3 = W2.alloc (.cells #[.int .i64 0, .int .i64 0, .string ⟨#[]⟩, .slice none 0 0, .slice none 0 0] 43) := ⟨_, rfl⟩
    have z1 : W1.heap.size = w.heap.size + 1 := by rw [hW1]; simp
    have z2 : W2.heap.size = w.heap.size + 1 + 1 := by rw [hW2]; simp [z1]
    have z3 : W3.heap.size = w.heap.size + 1 + 1 + 1 := by rw [hW3]; simp [z2]
    have B1 : Below w.heap.size w W1 := by rw [hW1]; exact (Below.refl _ _).alloc (Nat.le_refl _) _
    have B2 : Below W1.heap.size W1 W2 := by rw [hW2]; exact (Below.refl _ _).alloc (Nat.le_refl _) _
    have B3 : Below W2.heap.size W2 W3 := by rw [hW3]; exact (Below.refl _ _).alloc (Nat.le_refl _) _
    have x0 : S.Box W1 w.heap.size (.mk k n t sa sc s A c l) := by rw [hW1]; exact S.Box.new w (.mk k n t sa sc s A c l) _
    have xf : Free W1 w.heap.size := by rw [hW1]; exact Free.new _ _ _
    have c0 : W2.cell? ⟨w.heap.size + 1, 0, none⟩ = some (.func (.func 186) #[] #[]) := by rw [hW2, ← z1]; exact (D.Blk.new W1 _ _).cell 0
    have r0 : S.Box W3 (w.heap.size + 1 + 1) (.mk 0 0 ⟨#[]⟩ none 0 [] none 0 []) := by rw [hW3, ← z2]; exact S.Box.new W2 (.mk 0 0 ⟨#[]⟩ none 0 [] none 0 []) _
    have rf : Free W3 (w.heap.size + 1 + 1) := by rw [hW3, ← z2]; exact Free.new _ _ _
    have x0 := (x0.below B2 (by omega)).below B3 (by omega)
    have xf := (xf.below B2 (by omega)).below B3 (by omega)
    have c0 := (B3.cell (p := ⟨w.heap.size + 1, 0, none⟩) (show w.heap.size + 1 < W2.heap.size by omega)).trans c0
    have b3 : Below w.heap.size w W3 := (B1.trans (B2.mono (by omega))).trans (B3.mono (by omega))
    obtain ⟨p0, p1, p2, p3, p4⟩ := x0
    simp only [S.k, S.n, S.t, S.sa, S.sc, S.s, S.A, S.c] at p0 p1 p2 p3 p4
    have el : (S.mk k n t sa sc s A c l).l = l := rfl
    rw [el] at p4
    have hi3 := hin.below (b3.mono hB)
    have hsi3 := hi3.scopes
    simp only [S.sa, S.sc, S.s] at hsi3
    have h03 := hq0.trans (b3.mono hB0)
    have HF : Calls Tryz.prog 186 #[.slice sa s.length sc] W3 (RetI (f s) W3) := hF sa sc s B W3 h03 (by omega) hbl.1 hsi3 (by omega)
    have HC := copyScopes_any sa sc s B W3 hbl.1 hsi3 (by omega)
    have K : Hid (S.mapS f (.mk k n t sa sc s A c l) = .mk k n t none 0 (if k = 1 then f s else s) none 0 (S.mapSL f l)) := rfl
    by_cases hk1 : k = 1
    · subst hk1
      go_enter Tryz.func185, Tryz.ntmps185
      go_wp2_with fail
      rw [← hW1, ← hW2, ← hW3]
      clear hW1 hW2 hW3 B1 B2 B3
      refine HF.mono ?_
      rintro e w1 ⟨A', c', rfl, hown1, hb1⟩
      have zz := hb1.size
      have hwlt : w.heap.size < W3.heap.size := by omega
      obtain ⟨q0, q1, q2, q3, q4⟩ := (⟨p0, p1, p2, p3, p4⟩ : S.Box W3 w.heap.size (.mk 1 n t sa sc s A c l)).below hb1 hwlt
      simp only [S.k, S.n, S.t, S.sa, S.sc, S.s, S.A, S.c] at q0 q1 q2 q3 q4
      have el : (S.mk 1 n t sa sc s A c l).l = l := rfl
      rw [el] at q4
      have g3 := (xf.below hb1 hwlt).fr 3
      have c1 := (hb1.cell (p := ⟨w.heap.size + 1, 0, none⟩) (show w.heap.size + 1 < W3.heap.size by omega)).trans c0
      have rb := r0.below hb1 (by omega)
      have rfb := rf.below hb1 (by omega)
      have xfb := xf.below hb1 (by omega)
      have b4 := b3.trans (hb1.mono (by omega))
      obtain ⟨W5, hW5⟩ : ∃ W5, W5 = w1.setCell ⟨w.heap.size, 3, none⟩ (.slice A' (f s).length c') := ⟨_, rfl⟩
      have z5 : W5.heap.size = w1.heap.size := by rw [hW5]; simp
      have e0 : W5.cell? ⟨w.heap.size, 0, none⟩ = some (.int .i64 1) := by rw [hW5, icell_ne _ _ _ _ _ (by omega)]; exact q0
      have e1 : W5.cell? ⟨w.heap.size, 1, none⟩ = some (.int .i64 n) := by rw [hW5, icell_ne _ _ _ _ _ (by omega)]; exact q1
      have e2 : W5.cell? ⟨w.heap.size, 2, none⟩ = some (.string t) := by rw [hW5, icell_ne _ _ _ _ _ (by omega)]; exact q2
      have e3 : W5.cell? ⟨w.heap.size, 3, none⟩ = some (.slice A' (f s).length c') := by rw [hW5]; exact icell_eq q3
      have e4 : W5.cell? ⟨w.heap.size, 4, none⟩ = some (.slice A l.length c) := by rw [hW5, icell_ne _ _ _ _ _ (by omega)]; exact q4
      have BS : Below w.heap.size w1 W5 := by rw [hW5]; exact (Below.refl _ _).setCell (by simp) _
      have hne : ∀ b, b ≠ w.heap.size → W5.heap[b]? = w1.heap[b]? := fun b hb => by rw [hW5]; exact Below.heap_setCell _ _ _ _ (by simpa using hb)
      have c5 : W5.cell? ⟨w.heap.size + 1, 0, none⟩ = some (.func (.func 186) #[] #[]) := (World.cell?_of_block (a := ⟨w.heap.size + 1, 0, none⟩) (hne _ (show w.heap.size + 1 ≠ w.heap.size by omega))).trans c1
      have r5 := rb.keep (hne _ (by omega))
      have rf5 := rfb.keep (hne _ (by omega))
      have xf5 : Free W5 w.heap.size := by rw [hW5]; exact xfb.set_ _ _
      have b5 := b4.trans BS
      have hi5 := hin.below (b5.mono hB)
      have h05 := hq0.trans (b5.mono hB0)
      have own5 : IOwn W3.heap.size w1.heap.size W5 A' c' (f s) := hown1.keep fun k hk => hne _ (by have := hown1.lo_ k hk; omega)
      clear p0 p1 p2 p3 p4 hi3 hsi3 h03 b3 hb1 HF HC r0 rf xf c0
      go_wp2_with fail
      rw [← hW5]
      clear hW5 q0 q1 q2 q3 q4
      refine (mappedSS_stepC bc f B0 w0 m ih 1 n t sa sc s A c l B _ (w.heap.size + 1) hmm (by omega) hbl.2 hi5 (by omega) h05 (by omega) c5 (by omega)).mono ?_
      rintro e w2 ⟨A2, c2, l2, rfl, hde, hl1, hl2, hod, hA, hb2⟩
      have zz2 := hb2.size
      obtain ⟨s0, s1, s2, s3, s4⟩ := r5.below hb2 (by omega)
      have rf2 := rf5.below hb2 (by omega)
      have h0 := rf2.fr 0
      have h1 := rf2.fr 1
      have h2 := rf2.fr 2
      have h3 := rf2.fr 3
      have h4 := rf2.fr 4
      have hw5 : w.heap.size < W5.heap.size := by omega
      have u0 := (hb2.cell (p := ⟨w.heap.size, 0, none⟩) hw5).trans e0
      have u1 := (hb2.cell (p := ⟨w.heap.size, 1, none⟩) hw5).trans e1
      have u2 := (hb2.cell (p := ⟨w.heap.size, 2, none⟩) hw5).trans e2
      have u3 := (hb2.cell (p := ⟨w.heap.size, 3, none⟩) hw5).trans e3
      have u4 := (hb2.cell (p := ⟨w.heap.size, 4, none⟩) hw5).trans e4
      have xf2 := (xf5.below hb2 hw5).fr 4
      have own6 := own5.below (hb2.mono (by omega))
      have bb := b5.trans (hb2.mono (by omega))
      have Hde := Lib.hid hde
      have HA := Lib.hid hA
      clear hde hA hb2 e0 e1 e2 e3 e4 c5 r5 rf5 xf5 b5 hi5 h05 hne BS own5
      go_wp2_with fail
      refine bodyPost_ret (v := .agg #[.int .i64 1, .int .i64 n, .string t, .slice A' (f s).length c', .slice A2 l2.length c2]) (by simp [results, Tryz.results185, go_sem, s0, s1, s2, s3, s4]) rfl ⟨.mk 1 n t A' c' (f s) A2 c2 l2, rfl, ?_, ?_, ?_⟩
      · rw [K.out]; simp only [if_true, S.er, Hde.out]
      · have hlt : ∀ b ∈ iblk A' (f s), b < W5.heap.size := fun b hb => by have := hown1.inn.blk_lt b hb; omega
        have hown : S.Own W3.heap.size w2.heap.size w2 (.mk 1 n t A' c' (f s) A2 c2 l2) := S.Own.of_parts (own6.wide (Nat.le_refl _) (by omega)) (hod.wide (by omega) (Nat.le_refl _)) ⟨hl1, hl2, hcap.2.2⟩ (fun hne => by
          obtain ⟨g, e1, e2, e3, e4, e5, e6⟩ := HA.out hne
          exact ⟨g, e1, e2, by omega, e4, e5, e6, fun b hb => by have := hlt b hb; omega⟩) (fun b hb hm => by have := hlt b hb; have := hod.lo_ b hm; omega)
        simp only [World.size_setCell]
        exact ((((((hown.far (by simp; omega) _).far (by simp; omega) _).far (by simp; omega) _).far (by simp; omega) _).far (by simp; omega) _).far (by simp; omega) _).wide (by omega) (Nat.le_refl _)
      · exact (((((bb.setCell (by simp <;> omega) _).setCell (by simp <;> omega) _).setCell (by simp <;> omega) _).setCell (by simp <;> omega) _).setCell (by simp <;> omega) _).setCell (by simp <;> omega) _
    · have hkb : (k == 1) = false := by simp [hk1]
      go_enter Tryz.func185, Tryz.ntmps185
      go_wp2_with fail
      rw [← hW1, ← hW2, ← hW3]
      clear hW1 hW2 hW3 B1 B2 B3
      refine HC.mono ?_
      rintro e w1 ⟨A', c', rfl, hown1, hb1⟩
      have zz := hb1.size
      have hwlt : w.heap.size < W3.heap.size := by omega
      obtain ⟨q0, q1, q2, q3, q4⟩ := (⟨p0, p1, p2, p3, p4⟩ : S.Box W3 w.heap.size (.mk k n t sa sc s A c l)).below hb1 hwlt
      simp only [S.k, S.n, S.t, S.sa, S.sc, S.s, S.A, S.c] at q0 q1 q2 q3 q4
      have el : (S.mk k n t sa sc s A c l).l = l := rfl
      rw [el] at q4
      have g3 := (xf.below hb1 hwlt).fr 3
      have c1 := (hb1.cell (p := ⟨w.heap.size + 1, 0, none⟩) (show w.heap.size + 1 < W3.heap.size by omega)).trans c0
      have rb := r0.below hb1 (by omega)
      have rfb := rf.below hb1 (by omega)
      have xfb := xf.below hb1 (by omega)
      have b4 := b3.trans (hb1.mono (by omega))
      obtain ⟨W5, hW5⟩ : ∃ W5, W5 = w1.setCell ⟨w.heap.size, 3, none⟩ (.slice A' (s).length c') := ⟨_, rfl⟩
      have z5 : W5.heap.size = w1.heap.size := by rw [hW5]; simp
      have e0 : W5.cell? ⟨w.heap.size, 0, none⟩ = some (.int .i64 k) := by rw [hW5, icell_ne _ _ _ _ _ (by omega)]; exact q0
      have e1 : W5.cell? ⟨w.heap.size, 1, none⟩ = some (.int .i64 n) := by rw [hW5, icell_ne _ _ _ _ _ (by omega)]; exact q1
      have e2 : W5.cell? ⟨w.heap.size, 2, none⟩ = some (.string t) := by rw [hW5, icell_ne _ _ _ _ _ (by omega)]; exact q2
      have e3 : W5.cell? ⟨w.heap.size, 3, none⟩ = some (.slice A' (s).length c') := by rw [hW5]; exact icell_eq q3
      have e4 : W5.cell? ⟨w.heap.size, 4, none⟩ = some (.slice A l.length c) := by rw [hW5, icell_ne _ _ _ _ _ (by omega)]; exact q4
      have BS : Below w.heap.size w1 W5 := by rw [hW5]; exact (Below.refl _ _).setCell (by simp) _
      have hne : ∀ b, b ≠ w.heap.size → W5.heap[b]? = w1.heap[b]? := fun b hb => by rw [hW5]; exact Below.heap_setCell _ _ _ _ (by simpa using hb)
      have c5 : W5.cell? ⟨w.heap.size + 1, 0, none⟩ = some (.func (.func 186) #[] #[]) := (World.cell?_of_block (a := ⟨w.heap.size + 1, 0, none⟩) (hne _ (show w.heap.size + 1 ≠ w.heap.size by omega))).trans c1
      have r5 := rb.keep (hne _ (by omega))
      have rf5 := rfb.keep (hne _ (by omega))
      have xf5 : Free W5 w.heap.size := by rw [hW5]; exact xfb.set_ _ _
      have b5 := b4.trans BS
      have hi5 := hin.below (b5.mono hB)
      have h05 := hq0.trans (b5.mono hB0)
      have own5 : IOwn W3.heap.size w1.heap.size W5 A' c' (s) := hown1.keep fun k hk => hne _ (by have := hown1.lo_ k hk; omega)
      clear p0 p1 p2 p3 p4 hi3 hsi3 h03 b3 hb1 HF HC r0 rf xf c0
      go_wp2_with fail
      rw [← hW5]
      clear hW5 q0 q1 q2 q3 q4
      refine (mappedSS_stepC bc f B0 w0 m ih k n t sa sc s A c l B _ (w.heap.size + 1) hmm (by omega) hbl.2 hi5 (by omega) h05 (by omega) c5 (by omega)).mono ?_
      rintro e w2 ⟨A2, c2, l2, rfl, hde, hl1, hl2, hod, hA, hb2⟩
      have zz2 := hb2.size
      obtain ⟨s0, s1, s2, s3, s4⟩ := r5.below hb2 (by omega)
      have rf2 := rf5.below hb2 (by omega)
      have h0 := rf2.fr 0
      have h1 := rf2.fr 1
      have h2 := rf2.fr 2
      have h3 := rf2.fr 3
      have h4 := rf2.fr 4
      have hw5 : w.heap.size < W5.heap.size := by omega
      have u0 := (hb2.cell (p := ⟨w.heap.size, 0, none⟩) hw5).trans e0
      have u1 := (hb2.cell (p := ⟨w.heap.size, 1, none⟩) hw5).trans e1
      have u2 := (hb2.cell (p := ⟨w.heap.size, 2, none⟩) hw5).trans e2
      have u3 := (hb2.cell (p := ⟨w.heap.size, 3, none⟩) hw5).trans e3
      have u4 := (hb2.cell (p := ⟨w.heap.size, 4, none⟩) hw5).trans e4
      have xf2 := (xf5.below hb2 hw5).fr 4
      have own6 := own5.below (hb2.mono (by omega))
      have bb := b5.trans (hb2.mono (by omega))
      have Hde := Lib.hid hde
      have HA := Lib.hid hA
      clear hde hA hb2 e0 e1 e2 e3 e4 c5 r5 rf5 xf5 b5 hi5 h05 hne BS own5
      go_wp2_with fail
      refine bodyPost_ret (v := .agg #[.int .i64 k, .int .i64 n, .string t, .slice A' (s).length c', .slice A2 l2.length c2]) (by simp [results, Tryz.results185, go_sem, s0, s1, s2, s3, s4]) rfl ⟨.mk k n t A' c' (s) A2 c2 l2, rfl, ?_, ?_, ?_⟩
      · rw [K.out]; simp only [if_true, if_neg hk1, S.er, Hde.out]
      · have hlt : ∀ b ∈ iblk A' (s), b < W5.heap.size := fun b hb => by have := hown1.inn.blk_lt b hb; omega
        have hown : S.Own W3.heap.size w2.heap.size w2 (.mk k n t A' c' (s) A2 c2 l2) := S.Own.of_parts (own6.wide (Nat.le_refl _) (by omega)) (hod.wide (by omega) (Nat.le_refl _)) ⟨hl1, hl2, hcap.2.2⟩ (fun hne => by
          obtain ⟨g, e1, e2, e3, e4, e5, e6⟩ := HA.out hne
          exact ⟨g, e1, e2, by omega, e4, e5, e6, fun b hb => by have := hlt b hb; omega⟩) (fun b hb hm => by have := hlt b hb; have := hod.lo_ b hm; omega)
        simp only [World.size_setCell]
        exact ((((((hown.far (by simp; omega) _).far (by simp; omega) _).far (by simp; omega) _).far (by simp; omega) _).far (by simp; omega) _).far (by simp; omega) _).wide (by omega) (Nat.le_refl _)
      · exact (((((bb.setCell (by simp <;> omega) _).setCell (by simp <;> omega) _).setCell (by simp <;> omega) _).setCell (by simp <;> omega) _).setCell (by simp <;> omega) _).setCell (by simp <;> omega) _
end Go.Proofs.YtnldlbglgalbaabGreat

namespace Go.Proofs.YtnldlbglgalbaabGreat
open Go.RowKit

namespace S
theorem mapS_id (d : S) : mapS (fun s => s) d = er d := by
  induction d using ind with
  | h d ih =>
    cases d with
    | mk k n t sa sc s A c l =>
      have key : ∀ (a : List S), (∀ x ∈ a, x ∈ l) → mapSL (fun s => s) a = erL a := by
        intro a
        induction a with
        | nil => intro _; rfl
        | cons x r ih2 => intro hs; simp only [erL, mapSL, ih x (hs x (by simp)), ih2 fun y hy => hs y (by simp [hy])]
      simp only [er, mapS, key l (fun _ h => h), ite_self]
/-- What the document's functions of scopes answer. -/
def resS (f : List Int → List Int) (d : S) : S := if d.isS then mapS f d else er d
theorem resS_of_er (f : List Int → List Int) {d e : S} (h : er d = er e) : resS f d = resS f e := by unfold resS; rw [isS_of_er h, mapS_of_er f h, h]
end S

set_option maxRecDepth 100000 in
set_option maxHeartbeats 1000000 in
theorem copySyn_any (d : S) (B : Nat) (w : World) (hs : d.size ≤ 2000000) (hbk : d.bulk ≤ 2000000) (hin : d.In w B) (hB : B ≤ w.heap.size) : Calls Tryz.prog 184 #[d.val] w (RetS (S.er d) w) := by
  obtain ⟨k, n, t, sa, sc, s, A, c, l⟩ := d
  obtain ⟨W1, hW1⟩ : ∃ W1, W1 = w.alloc (.cells #[.int .i64 k, .int .i64 n, .string t, .slice sa s.length sc, .slice A l.length c] 43) := ⟨_, rfl⟩
  obtain ⟨W2, hW2⟩ : ∃ W2, W2 = W1.alloc (.cells #[.int .i64 0, .int .i64 0, .string ⟨#[]⟩, .slice none 0 0, .slice none 0 0] 43) := ⟨_, rfl⟩
  have z1 : W1.heap.size = w.heap.size + 1 := by rw [hW1]; simp
  have B1 : Below w.heap.size w W1 := by rw [hW1]; exact (Below.refl _ _).alloc (Nat.le_refl _) _
  have z2 : W2.heap.size = w.heap.size + 1 + 1 := by rw [hW2]; simp [z1]
  have B2 : Below W1.heap.size W1 W2 := by rw [hW2]; exact (Below.refl _ _).alloc (Nat.le_refl _) _
  have x0 : S.Box W1 w.heap.size (.mk k n t sa sc s A c l) := by rw [hW1]; exact S.Box.new w (.mk k n t sa sc s A c l) _
  have x0 := x0.below B2 (by omega)
  have r0 : S.Box W2 (w.heap.size + 1) (.mk 0 0 ⟨#[]⟩ none 0 [] none 0 []) := by rw [hW2, ← z1]; exact S.Box.new W1 (.mk 0 0 ⟨#[]⟩ none 0 [] none 0 []) _
  have rf : Free W2 (w.heap.size + 1) := by rw [hW2, ← z1]; exact Free.new _ _ _
  have b3 : Below w.heap.size w W2 := (B1.trans (B2.mono (by omega)))
  have hi2 := hin.below (b3.mono hB)
  obtain ⟨p0, p1, p2, p3, p4⟩ := x0
  simp only [S.k, S.n, S.t, S.sa, S.sc, S.s, S.A, S.c] at p0 p1 p2 p3 p4
  have el : (S.mk k n t sa sc s A c l).l = l := rfl
  rw [el] at p4
  simp only [S.val, S.k, S.n, S.t, S.sa, S.sc, S.s, S.A, S.l, S.c]
  go_enter Tryz.func184, Tryz.ntmps184
  go_wp2_with fail
  rw [← hW1, ← hW2]
  clear hW1 hW2 B1 B2
  refine ((resc_anyC 0 (fun s => s) W2.heap.size W2 (fun A c s B w _ _ hl hi hB => copyScopes_any A c s B w hl hi hB) 2000000 (.mk k n t sa sc s A c l) B _ hs (Nat.le_refl _) hbk hi2 (by omega) (Below.refl _ _) (Nat.le_refl _)).mono (R' := RetS (S.er (.mk k n t sa sc s A c l)) W2) (by rintro e w2 ⟨d, rfl, hde, h⟩; exact ⟨d, rfl, by rw [hde, S.mapS_id], h⟩)).mono ?_
  rintro e w2 ⟨d, rfl, hde, hod, hb2⟩
  have zz2 := hb2.size
  obtain ⟨s0, s1, s2, s3, s4⟩ := r0.below hb2 (by omega)
  have rf2 := rf.below hb2 (by omega)
  have h0 := rf2.fr 0
  have h1 := rf2.fr 1
  have h2 := rf2.fr 2
  have h3 := rf2.fr 3
  have h4 := rf2.fr 4
  have bb2 := b3.trans (hb2.mono (by omega))
  have Hde := Lib.hid hde
  clear hde hb2
  simp only [S.val]
  go_wp2_with fail
  refine bodyPost_ret (v := .agg #[.int .i64 d.k, .int .i64 d.n, .string d.t, .slice d.sa d.s.length d.sc, .slice d.A d.l.length d.c]) (by simp [results, Tryz.results184, go_sem, s0, s1, s2, s3, s4]) rfl ⟨d, rfl, ?_, ?_, ?_⟩
  · exact Hde.out
  · have hown := hod.wide (lo' := w.heap.size + 1 + 1) (by omega) (Nat.le_refl _)
    simp only [World.size_setCell]
    exact (((((hown.far (by simp <;> omega) _).far (by simp <;> omega) _).far (by simp <;> omega) _).far (by simp <;> omega) _).far (by simp <;> omega) _).wide (by omega) (Nat.le_refl _)
  · exact ((((bb2.setCell (by simp <;> omega) _).setCell (by simp <;> omega) _).setCell (by simp <;> omega) _).setCell (by simp <;> omega) _).setCell (by simp <;> omega) _
end Go.Proofs.YtnldlbglgalbaabGreat

namespace Go.Proofs.YtnldlbglgalbaabGreat
open Go.RowKit

end Go.Proofs.YtnldlbglgalbaabGreat

namespace Go.Proofs.YtnldlbglgalbaabGreat
open Go.RowKit

theorem Ka_info : (Tryz.prog.info? 82).map (fun i => (i.zero, i.size, i.bytes)) = some (some (.agg #[.int .i64 0, .int .i64 0, .string ⟨#[]⟩, .slice none 0 0, .slice none 0 0, .int .i64 0, .int .i64 0, .int .i64 0, .string ⟨#[]⟩, .slice none 0 0, .slice none 0 0, .slice none 0 0]), 12, 192) := by kernel_rfl
theorem Ka_far {w : World} {g : Nat} {T : TypeId} {cs : Array Value} (h : D.Blk w g T cs) {p : Addr} (hp : g ≠ p.block) (u : Value) : D.Blk (w.setCell p u) g T cs := (Below.heap_setCell _ _ _ _ hp).trans h
theorem Ka.own_head {l0 l1 l2 : Nat} {w : World} {x : Ka} (h_N : x.N.Own l0 l1 w) (h_F : x.F.Own l1 l2 w) (h0 : l0 ≤ l1) (h1 : l1 ≤ l2) : Ka.H.Own l0 l2 w x := by
  refine ⟨⟨h_N.inn.more h1, h_F.inn⟩, fun k hk => ?_, ?_, fun k hk o => ?_⟩
  · rcases List.mem_append.1 hk with hk | hk
    · exact h_N.lo_ k hk
    · have := h_F.lo_ k hk; omega
  · refine List.nodup_append.2 ⟨h_N.nd, h_F.nd, fun p hp q hq e => ?_⟩
    have := h_N.inn.blk_lt p hp
    have := h_F.lo_ q hq
    omega
  · rcases List.mem_append.1 hk with hk | hk
    · exact h_N.fr k hk o
    · exact h_F.fr k hk o


end Go.Proofs.YtnldlbglgalbaabGreat
