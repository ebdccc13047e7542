/-
  Swapped symbols: the program's swapping in place.
-/
import Derived.Test.YtiopophoioiafaaSwap
import Derived.Test.YtiopophoioiafaaMark
namespace Go.Proofs.Ytiopophoioiafaa
open Go.RowKit

/-- The four cells at ⟨g, o⟩ hold d. -/
structure D.At (w : World) (g o : Nat) (d : D) : Prop where
  c0 : w.cell? ⟨g, o, none⟩ = some (.int .i64 d.k)
  c1 : w.cell? ⟨g, o + 1, none⟩ = some (.int .i64 d.n)
  c2 : w.cell? ⟨g, o + 2, none⟩ = some (.string d.t)
  c3 : w.cell? ⟨g, o + 3, none⟩ = some (.slice d.A d.l.length d.c)
/-- What swapIn leaves. -/
structure SwapPost (sa sb : ByteArray) (d : D) (g o lo hi : Nat) (w w' : World) : Prop where
  same : ∀ q, q ≠ o + 2 → w'.cell? ⟨g, q, none⟩ = w.cell? ⟨g, q, none⟩
  text : w'.cell? ⟨g, o + 2, none⟩ = some (.string (D.swT sa sb d.k d.t))
  frozen : ∀ q, w'.frozen? ⟨g, q, none⟩ = w.frozen? ⟨g, q, none⟩
  own : (D.sw sa sb d).Own lo hi w'
  chg : Chg (g :: d.blks) w w'
def SwInOk (sa sb : ByteArray) (m : Nat) : Prop := ∀ (d : D) (g o lo hi : Nat) (w : World), d.size ≤ m → m ≤ 2000000 → D.At w g o d → (∀ q, w.frozen? ⟨g, q, none⟩ = false) → g < w.heap.size → g ∉ d.blks → d.Own lo hi w → hi ≤ w.heap.size →
    Calls Try.prog 89 #[.pointer (some ⟨g, o, none⟩), .string sa, .string sb] w fun e w' => e = .returned (.tuple #[]) ∧ SwapPost sa sb d g o lo hi w w'

theorem D.RowIs.other {w : World} {b p g q : Nat} {l : List D} (h : D.RowIs w b p l) (hgb : g ≠ b) (u : Value) : D.RowIs (w.setCell ⟨g, q, none⟩ u) b p l := by
  have e : ∀ x, (w.setCell ⟨g, q, none⟩ u).cell? ⟨b, x, none⟩ = w.cell? ⟨b, x, none⟩ := fun x => World.cell?_of_block (a := ⟨b, x, none⟩) (Below.heap_setCell _ _ _ _ (fun e => hgb e.symm))
  intro i d hi
  obtain ⟨h0, h1, h2, h3⟩ := h i d hi
  exact ⟨(e _).trans h0, (e _).trans h1, (e _).trans h2, (e _).trans h3⟩

theorem swap_round {sa sb : ByteArray} {wr w2 : World} {b o j lo hi : Nat} {pre suf : List D} {x : D} (hbw : b < wr.heap.size) (hhi : hi ≤ wr.heap.size) (hr : D.RowIs wr b o (pre ++ x :: suf)) (ho : D.OwnL lo hi wr (pre ++ x :: suf)) (hbn : b ∉ D.blksL (pre ++ x :: suf)) (hpre : pre.length = j)
    (hfr : ∀ q, wr.frozen? ⟨b, q, none⟩ = false) (hp : SwapPost sa sb x b (o + j * 4) lo hi wr w2) :
    D.RowIs w2 b o (pre ++ D.sw sa sb x :: suf) ∧ D.OwnL lo hi w2 (pre ++ D.sw sa sb x :: suf) ∧ (∀ q, w2.frozen? ⟨b, q, none⟩ = false) ∧ Chg (b :: D.blksL (pre ++ x :: suf)) wr w2 := by
  have hx : (pre ++ x :: suf)[j]? = some x := by rw [List.getElem?_append_right (by omega), hpre]; simp
  obtain ⟨c0, c1, c2, c3⟩ := hr j _ hx
  have hmx : ∀ k, k ∈ D.blks x → k ∈ D.blksL (pre ++ x :: suf) := fun k hk => by simp [D.blksL_append, D.blksL, hk]
  refine ⟨hr.upd hpre (fun q h0 h1 h2 => hp.same q h2) ?_ ?_ ?_ ?_ ?_ ?_, ho.put (fun k hk => ?_) hp.own (D.blks_sw sa sb x), fun q => (hp.frozen q).trans (hfr q), hp.chg.mono fun k hk => ?_⟩
  · rw [hp.same _ (by omega), c0]; cases x; rfl
  · rw [hp.same _ (by omega), c1]; cases x; rfl
  · rw [hp.text]; cases x; rfl
  · cases x; rfl
  · cases x; simp only [D.sw, D.l, D.swL_length]
  · cases x; rfl
  · have h0 : k ∈ D.blksL (pre ++ x :: suf) := by simp only [D.blksL_append, D.blksL, List.mem_append]; rcases hk with h | h <;> simp [h]
    have h1 := ho.inn.blk_lt k h0
    refine hp.chg.block k (by omega) fun hm => ?_
    rw [List.mem_cons] at hm
    rcases hm with rfl | hm
    · exact hbn h0
    · exact ho.mid_far k hk hm
  · rw [List.mem_cons] at hk
    rcases hk with rfl | hk
    · simp
    · exact List.mem_cons_of_mem _ (hmx k hk)

set_option maxRecDepth 100000 in
set_option maxHeartbeats 1000000 in
theorem swapIn_si1 (sa sb : ByteArray) (ha : sa.size ≤ 9223372036854775807) (hb : sb.size ≤ 9223372036854775807) (m : Nat) (ih : SwInOk sa sb m) (k n : Int) (t : ByteArray) (A : Option Addr) (c : Nat) (l : List D) (g o lo hi : Nat) (w : World) (hm : (D.mk k n t A c l).size ≤ m + 1) (hm2 : m + 1 ≤ 2000000)
    (hat : D.At w g o (.mk k n t A c l)) (hfr : ∀ q, w.frozen? ⟨g, q, none⟩ = false) (hg : g < w.heap.size) (hgn : g ∉ (D.mk k n t A c l).blks) (hown : (D.mk k n t A c l).Own lo hi w) (hhi : hi ≤ w.heap.size) (hk : k = 1) (ht : t.toList = sa.toList) :
    Calls Try.prog 89 #[.pointer (some ⟨g, o, none⟩), .string sa, .string sb] w fun e w' => e = .returned (.tuple #[]) ∧ SwapPost sa sb (.mk k n t A c l) g o lo hi w w' := by
  have hcap := hown.inn.cap
  have hX : D.swT sa sb k t = sb := by simp [D.swT, hk, ht]
  have hk0 : (k == 1) = true := by simp [hk]
  have ht0 : (t.toList == sa.toList) = true := by simp [ht]
  have HX := Lib.hid hX
  have Hsz : Hid (sb.size ≤ 9223372036854775807) := by have := hcap.2.2; simp only [D.t] at this; first | exact ha | exact hb | exact this
  clear hX ha hb hk ht
  obtain ⟨c0, c1, c2, c3⟩ := hat
  simp only [D.l, D.c, D.t, D.A, D.k, D.n] at hcap c0 c1 c2 c3
  have f2 := hfr (o + 2)
  have HF := Lib.hid hfr
  clear hfr
  have hll := D.length_le_sizeL l
  have hmm : D.sizeL l ≤ m := by simp only [D.size] at hm; omega
  by_cases hl : l = []
  · subst hl
    go_enter Try.func89, Try.ntmps89
    go_wp2_with fail
    go_loopw [46] (fun i wr => i = .int .i64 0 ∧ wr = w.setCell ⟨g, o + 2, none⟩ (.string sb)) (fun _ _ => 0)
    case atStart => exact ⟨rfl, rfl⟩
    case round =>
      obtain ⟨rfl, rfl⟩ := hrel
      go_wp2_with fail
      refine bodyPost_end (v := .tuple #[]) (results_none Try.results89 _ _ _) rfl ⟨rfl, fun q h => D.cell_set_ne _ _ _ _ _ h, ?_, fun q => by rw [World.frozen?_setCell], ?_, (Chg.refl _ _).setCell (Or.inl (by simp)) _⟩
      · simp only [D.k, D.t]; rw [HX.out]; exact D.cell_set_eq c2
      · simp only [D.sw, D.swL]; exact D.Own.no_items hcap.2.1 (by rw [HX.out]; exact Hsz.out)
  · obtain ⟨b, p, rfl, hblo, hbhi, hbn, hfz, hrow, hol⟩ := hown.parts hl
    have hbl : (D.mk k n t (some ⟨b, p, none⟩) c l).blks = b :: D.blksL l := by
      cases l with
      | nil => exact absurd rfl hl
      | cons _ _ => simp [D.blks]
    rw [hbl] at hgn
    have Hbl := Lib.hid hbl
    clear hbl
    have hgb : g ≠ b := fun e => hgn (by simp [e])
    have hgb' : b ≠ g := fun e => hgb e.symm
    have Hfz := Lib.hid hfz
    go_enter Try.func89, Try.ntmps89
    go_wp2_with fail
    go_loopw [46] (fun i wr => ∃ j : Nat, j ≤ l.length ∧ i = .int .i64 j ∧ D.RowIs wr b p (D.swL sa sb (l.take j) ++ l.drop j) ∧ D.OwnL lo hi wr (D.swL sa sb (l.take j) ++ l.drop j) ∧ Hid (∀ q, wr.frozen? ⟨b, q, none⟩ = false) ∧
      Hid (∀ q, q ≠ o + 2 → wr.cell? ⟨g, q, none⟩ = w.cell? ⟨g, q, none⟩) ∧ Hid (wr.cell? ⟨g, o + 2, none⟩ = some (.string sb)) ∧ Hid (∀ q, wr.frozen? ⟨g, q, none⟩ = w.frozen? ⟨g, q, none⟩) ∧ Chg (g :: b :: D.blksL l) w wr) (fun i _ => l.length - (intOf i).toNat)
    case atStart =>
      refine ⟨0, Nat.zero_le _, rfl, ?_, ?_, ?_, fun q h => D.cell_set_ne _ _ _ _ _ h, D.cell_set_eq c2, fun q => by rw [World.frozen?_setCell], (Chg.refl _ _).setCell (Or.inl (by simp)) _⟩
      · simp only [List.take_zero, D.swL, List.drop_zero, List.nil_append]
        exact hrow.other hgb _
      · simp only [List.take_zero, D.swL, List.drop_zero, List.nil_append]
        exact hol.keepB fun k hk => Below.heap_setCell _ _ _ _ (fun e => hgn (by subst e; simp [hk]))
      · intro q; rw [World.frozen?_setCell]; exact hfz q
    case round =>
      obtain ⟨j, hj, rfl, hr, ho, Hfr, HS, HT, HG, hch⟩ := hrel
      have hs2 := hch.size
      by_cases hlt : j < l.length
      · rw [List.drop_eq_getElem_cons hlt] at hr ho
        have hpre : (D.swL sa sb (l.take j)).length = j := by rw [D.swL_length, List.length_take]; omega
        have hx : (D.swL sa sb (l.take j) ++ l[j] :: l.drop (j + 1))[j]? = some l[j] := by rw [List.getElem?_append_right (by omega), hpre]; simp
        have hcs := hr j _ hx
        have hoj := ho.mid
        have hsx := D.sizeL_mem (l := l) (List.getElem_mem hlt)
        have hbn' : b ∉ D.blksL (D.swL sa sb (l.take j) ++ l[j] :: l.drop (j + 1)) := by
          rw [← List.drop_eq_getElem_cons hlt, D.blksL_append, D.blksL_sw, ← D.blksL_append, List.take_append_drop]; exact hbn
        have hbx : b ∉ D.blks l[j] := fun h => hbn' (by simp only [D.blksL_append, D.blksL, List.mem_append]; exact Or.inr (Or.inl h))
        have c3r : wr.cell? ⟨g, o + 3, none⟩ = some (.slice (some ⟨b, p, none⟩) l.length c) := (HS.out (o + 3) (by omega)).trans c3
        have Hx := Lib.hid hx
        have Hp := Lib.hid hpre
        have HA : Hid (D.At wr b (p + j * 4) l[j]) := ⟨hcs.1, hcs.2.1, hcs.2.2.1, hcs.2.2.2⟩
        clear hx hpre hfz hcs c0 c1 c2 f2
        go_wp2_with fail
        refine (ih l[j] b (p + j * 4) lo hi _ (by omega) (by omega) HA.out Hfr.out (by omega) hbx hoj (by omega)).mono ?_
        rintro e w2 ⟨rfl, hp⟩
        have hmr := swap_round (by omega) (by omega) hr ho hbn' Hp.out Hfr.out hp
        have Hmr := Lib.hid hmr
        have Hbb := Lib.hid hbn'
        clear hmr hp hbn' hoj
        go_wp2_with fail
        obtain ⟨m1, m2, m3, m4⟩ := Hmr.out
        have eM : D.swL sa sb (l.take (j + 1)) ++ l.drop (j + 1) = D.swL sa sb (l.take j) ++ D.sw sa sb l[j] :: l.drop (j + 1) := by rw [List.take_succ_eq_append_getElem hlt, D.swL_append]; simp [D.swL]
        have hsub : ∀ y, y ∈ b :: D.blksL (D.swL sa sb (l.take j) ++ l[j] :: l.drop (j + 1)) → y ∈ b :: D.blksL l := by
          intro y hy
          rwa [← List.drop_eq_getElem_cons hlt, D.blksL_append, D.blksL_sw, ← D.blksL_append, List.take_append_drop] at hy
        have hgg : w2.heap[g]? = wr.heap[g]? := m4.block g (by omega) (fun hm => hgn (hsub g hm))
        refine ⟨⟨j + 1, by omega, by go_num, by rw [eM]; exact m1, by rw [eM]; exact m2, m3, fun q hq => (World.cell?_of_block (a := ⟨g, q, none⟩) hgg).trans (HS.out q hq), (World.cell?_of_block (a := ⟨g, o + 2, none⟩) hgg).trans HT.out, fun q => (World.frozen?_of_block (a := ⟨g, q, none⟩) hgg).trans (HG.out q), hch.trans (m4.mono fun y hy => List.mem_cons_of_mem _ (hsub y hy))⟩, by simp [intOf]; omega⟩
      · have hj' : j = l.length := by omega
        subst hj'
        have Hch := Lib.hid hch
        clear c0 c1 c2 c3 f2
        go_wp2_with fail
        rw [List.take_length] at hr ho
        simp only [List.drop_length, List.append_nil] at hr ho
        refine bodyPost_end (v := .tuple #[]) (results_none Try.results89 _ _ _) rfl ⟨rfl, HS.out, ?_, HG.out, ?_, by rw [Hbl.out]; exact Hch.out⟩
        · simp only [D.k, D.t]; rw [HX.out]; exact HT.out
        · simp only [D.sw]
          exact D.Own.join ho (by rw [D.swL_length, HX.out]; exact ⟨hcap.1, hcap.2.1, Hsz.out⟩) hblo hbhi (by rw [D.blksL_sw]; exact hbn) Hfr.out hr

set_option maxRecDepth 100000 in
set_option maxHeartbeats 1000000 in
theorem swapIn_si2 (sa sb : ByteArray) (ha : sa.size ≤ 9223372036854775807) (hb : sb.size ≤ 9223372036854775807) (m : Nat) (ih : SwInOk sa sb m) (k n : Int) (t : ByteArray) (A : Option Addr) (c : Nat) (l : List D) (g o lo hi : Nat) (w : World) (hm : (D.mk k n t A c l).size ≤ m + 1) (hm2 : m + 1 ≤ 2000000)
    (hat : D.At w g o (.mk k n t A c l)) (hfr : ∀ q, w.frozen? ⟨g, q, none⟩ = false) (hg : g < w.heap.size) (hgn : g ∉ (D.mk k n t A c l).blks) (hown : (D.mk k n t A c l).Own lo hi w) (hhi : hi ≤ w.heap.size) (hk : k = 1) (ht : ¬ t.toList = sa.toList) (ht2 : t.toList = sb.toList) :
    Calls Try.prog 89 #[.pointer (some ⟨g, o, none⟩), .string sa, .string sb] w fun e w' => e = .returned (.tuple #[]) ∧ SwapPost sa sb (.mk k n t A c l) g o lo hi w w' := by
  have hcap := hown.inn.cap
  have hX : D.swT sa sb k t = sa := by (simp only [D.swT, hk, if_true, if_neg ht, if_pos ht2])
  have hk0 : (k == 1) = true := by simp [hk]
  have ht0 : (t.toList == sa.toList) = false := by simpa using ht
  have ht1 : (t.toList == sb.toList) = true := by simp [ht2]
  have HX := Lib.hid hX
  have Hsz : Hid (sa.size ≤ 9223372036854775807) := by have := hcap.2.2; simp only [D.t] at this; first | exact ha | exact hb | exact this
  clear hX ha hb hk ht ht2
  obtain ⟨c0, c1, c2, c3⟩ := hat
  simp only [D.l, D.c, D.t, D.A, D.k, D.n] at hcap c0 c1 c2 c3
  have f2 := hfr (o + 2)
  have HF := Lib.hid hfr
  clear hfr
  have hll := D.length_le_sizeL l
  have hmm : D.sizeL l ≤ m := by simp only [D.size] at hm; omega
  by_cases hl : l = []
  · subst hl
    go_enter Try.func89, Try.ntmps89
    go_wp2_with fail
    go_loopw [46] (fun i wr => i = .int .i64 0 ∧ wr = w.setCell ⟨g, o + 2, none⟩ (.string sa)) (fun _ _ => 0)
    case atStart => exact ⟨rfl, rfl⟩
    case round =>
      obtain ⟨rfl, rfl⟩ := hrel
      go_wp2_with fail
      refine bodyPost_end (v := .tuple #[]) (results_none Try.results89 _ _ _) rfl ⟨rfl, fun q h => D.cell_set_ne _ _ _ _ _ h, ?_, fun q => by rw [World.frozen?_setCell], ?_, (Chg.refl _ _).setCell (Or.inl (by simp)) _⟩
      · simp only [D.k, D.t]; rw [HX.out]; exact D.cell_set_eq c2
      · simp only [D.sw, D.swL]; exact D.Own.no_items hcap.2.1 (by rw [HX.out]; exact Hsz.out)
  · obtain ⟨b, p, rfl, hblo, hbhi, hbn, hfz, hrow, hol⟩ := hown.parts hl
    have hbl : (D.mk k n t (some ⟨b, p, none⟩) c l).blks = b :: D.blksL l := by
      cases l with
      | nil => exact absurd rfl hl
      | cons _ _ => simp [D.blks]
    rw [hbl] at hgn
    have Hbl := Lib.hid hbl
    clear hbl
    have hgb : g ≠ b := fun e => hgn (by simp [e])
    have hgb' : b ≠ g := fun e => hgb e.symm
    have Hfz := Lib.hid hfz
    go_enter Try.func89, Try.ntmps89
    go_wp2_with fail
    go_loopw [46] (fun i wr => ∃ j : Nat, j ≤ l.length ∧ i = .int .i64 j ∧ D.RowIs wr b p (D.swL sa sb (l.take j) ++ l.drop j) ∧ D.OwnL lo hi wr (D.swL sa sb (l.take j) ++ l.drop j) ∧ Hid (∀ q, wr.frozen? ⟨b, q, none⟩ = false) ∧
      Hid (∀ q, q ≠ o + 2 → wr.cell? ⟨g, q, none⟩ = w.cell? ⟨g, q, none⟩) ∧ Hid (wr.cell? ⟨g, o + 2, none⟩ = some (.string sa)) ∧ Hid (∀ q, wr.frozen? ⟨g, q, none⟩ = w.frozen? ⟨g, q, none⟩) ∧ Chg (g :: b :: D.blksL l) w wr) (fun i _ => l.length - (intOf i).toNat)
    case atStart =>
      refine ⟨0, Nat.zero_le _, rfl, ?_, ?_, ?_, fun q h => D.cell_set_ne _ _ _ _ _ h, D.cell_set_eq c2, fun q => by rw [World.frozen?_setCell], (Chg.refl _ _).setCell (Or.inl (by simp)) _⟩
      · simp only [List.take_zero, D.swL, List.drop_zero, List.nil_append]
        exact hrow.other hgb _
      · simp only [List.take_zero, D.swL, List.drop_zero, List.nil_append]
        exact hol.keepB fun k hk => Below.heap_setCell _ _ _ _ (fun e => hgn (by subst e; simp [hk]))
      · intro q; rw [World.frozen?_setCell]; exact hfz q
    case round =>
      obtain ⟨j, hj, rfl, hr, ho, Hfr, HS, HT, HG, hch⟩ := hrel
      have hs2 := hch.size
      by_cases hlt : j < l.length
      · rw [List.drop_eq_getElem_cons hlt] at hr ho
        have hpre : (D.swL sa sb (l.take j)).length = j := by rw [D.swL_length, List.length_take]; omega
        have hx : (D.swL sa sb (l.take j) ++ l[j] :: l.drop (j + 1))[j]? = some l[j] := by rw [List.getElem?_append_right (by omega), hpre]; simp
        have hcs := hr j _ hx
        have hoj := ho.mid
        have hsx := D.sizeL_mem (l := l) (List.getElem_mem hlt)
        have hbn' : b ∉ D.blksL (D.swL sa sb (l.take j) ++ l[j] :: l.drop (j + 1)) := by
          rw [← List.drop_eq_getElem_cons hlt, D.blksL_append, D.blksL_sw, ← D.blksL_append, List.take_append_drop]; exact hbn
        have hbx : b ∉ D.blks l[j] := fun h => hbn' (by simp only [D.blksL_append, D.blksL, List.mem_append]; exact Or.inr (Or.inl h))
        have c3r : wr.cell? ⟨g, o + 3, none⟩ = some (.slice (some ⟨b, p, none⟩) l.length c) := (HS.out (o + 3) (by omega)).trans c3
        have Hx := Lib.hid hx
        have Hp := Lib.hid hpre
        have HA : Hid (D.At wr b (p + j * 4) l[j]) := ⟨hcs.1, hcs.2.1, hcs.2.2.1, hcs.2.2.2⟩
        clear hx hpre hfz hcs c0 c1 c2 f2
        go_wp2_with fail
        refine (ih l[j] b (p + j * 4) lo hi _ (by omega) (by omega) HA.out Hfr.out (by omega) hbx hoj (by omega)).mono ?_
        rintro e w2 ⟨rfl, hp⟩
        have hmr := swap_round (by omega) (by omega) hr ho hbn' Hp.out Hfr.out hp
        have Hmr := Lib.hid hmr
        have Hbb := Lib.hid hbn'
        clear hmr hp hbn' hoj
        go_wp2_with fail
        obtain ⟨m1, m2, m3, m4⟩ := Hmr.out
        have eM : D.swL sa sb (l.take (j + 1)) ++ l.drop (j + 1) = D.swL sa sb (l.take j) ++ D.sw sa sb l[j] :: l.drop (j + 1) := by rw [List.take_succ_eq_append_getElem hlt, D.swL_append]; simp [D.swL]
        have hsub : ∀ y, y ∈ b :: D.blksL (D.swL sa sb (l.take j) ++ l[j] :: l.drop (j + 1)) → y ∈ b :: D.blksL l := by
          intro y hy
          rwa [← List.drop_eq_getElem_cons hlt, D.blksL_append, D.blksL_sw, ← D.blksL_append, List.take_append_drop] at hy
        have hgg : w2.heap[g]? = wr.heap[g]? := m4.block g (by omega) (fun hm => hgn (hsub g hm))
        refine ⟨⟨j + 1, by omega, by go_num, by rw [eM]; exact m1, by rw [eM]; exact m2, m3, fun q hq => (World.cell?_of_block (a := ⟨g, q, none⟩) hgg).trans (HS.out q hq), (World.cell?_of_block (a := ⟨g, o + 2, none⟩) hgg).trans HT.out, fun q => (World.frozen?_of_block (a := ⟨g, q, none⟩) hgg).trans (HG.out q), hch.trans (m4.mono fun y hy => List.mem_cons_of_mem _ (hsub y hy))⟩, by simp [intOf]; omega⟩
      · have hj' : j = l.length := by omega
        subst hj'
        have Hch := Lib.hid hch
        clear c0 c1 c2 c3 f2
        go_wp2_with fail
        rw [List.take_length] at hr ho
        simp only [List.drop_length, List.append_nil] at hr ho
        refine bodyPost_end (v := .tuple #[]) (results_none Try.results89 _ _ _) rfl ⟨rfl, HS.out, ?_, HG.out, ?_, by rw [Hbl.out]; exact Hch.out⟩
        · simp only [D.k, D.t]; rw [HX.out]; exact HT.out
        · simp only [D.sw]
          exact D.Own.join ho (by rw [D.swL_length, HX.out]; exact ⟨hcap.1, hcap.2.1, Hsz.out⟩) hblo hbhi (by rw [D.blksL_sw]; exact hbn) Hfr.out hr

set_option maxRecDepth 100000 in
set_option maxHeartbeats 1000000 in
theorem swapIn_si3 (sa sb : ByteArray) (ha : sa.size ≤ 9223372036854775807) (hb : sb.size ≤ 9223372036854775807) (m : Nat) (ih : SwInOk sa sb m) (k n : Int) (t : ByteArray) (A : Option Addr) (c : Nat) (l : List D) (g o lo hi : Nat) (w : World) (hm : (D.mk k n t A c l).size ≤ m + 1) (hm2 : m + 1 ≤ 2000000)
    (hat : D.At w g o (.mk k n t A c l)) (hfr : ∀ q, w.frozen? ⟨g, q, none⟩ = false) (hg : g < w.heap.size) (hgn : g ∉ (D.mk k n t A c l).blks) (hown : (D.mk k n t A c l).Own lo hi w) (hhi : hi ≤ w.heap.size) (hk : k = 1) (ht : ¬ t.toList = sa.toList) (ht2 : ¬ t.toList = sb.toList) :
    Calls Try.prog 89 #[.pointer (some ⟨g, o, none⟩), .string sa, .string sb] w fun e w' => e = .returned (.tuple #[]) ∧ SwapPost sa sb (.mk k n t A c l) g o lo hi w w' := by
  have hcap := hown.inn.cap
  have hX : D.swT sa sb k t = t := by (simp only [D.swT, hk, if_true, if_neg ht, if_neg ht2])
  have hk0 : (k == 1) = true := by simp [hk]
  have ht0 : (t.toList == sa.toList) = false := by simpa using ht
  have ht1 : (t.toList == sb.toList) = false := by simpa using ht2
  have HX := Lib.hid hX
  have Hsz : Hid (t.size ≤ 9223372036854775807) := by have := hcap.2.2; simp only [D.t] at this; first | exact ha | exact hb | exact this
  clear hX ha hb hk ht ht2
  obtain ⟨c0, c1, c2, c3⟩ := hat
  simp only [D.l, D.c, D.t, D.A, D.k, D.n] at hcap c0 c1 c2 c3
  have f2 := hfr (o + 2)
  have HF := Lib.hid hfr
  clear hfr
  have hll := D.length_le_sizeL l
  have hmm : D.sizeL l ≤ m := by simp only [D.size] at hm; omega
  by_cases hl : l = []
  · subst hl
    go_enter Try.func89, Try.ntmps89
    go_wp2_with fail
    go_loopw [46] (fun i wr => i = .int .i64 0 ∧ wr = w) (fun _ _ => 0)
    case atStart => exact ⟨rfl, rfl⟩
    case round =>
      obtain ⟨rfl, rfl⟩ := hrel
      go_wp2_with fail
      refine bodyPost_end (v := .tuple #[]) (results_none Try.results89 _ _ _) rfl ⟨rfl, fun q h => rfl, ?_, fun q => rfl, ?_, Chg.refl _ _⟩
      · simp only [D.k, D.t]; rw [HX.out]; exact c2
      · simp only [D.sw, D.swL]; exact D.Own.no_items hcap.2.1 (by rw [HX.out]; exact Hsz.out)
  · obtain ⟨b, p, rfl, hblo, hbhi, hbn, hfz, hrow, hol⟩ := hown.parts hl
    have hbl : (D.mk k n t (some ⟨b, p, none⟩) c l).blks = b :: D.blksL l := by
      cases l with
      | nil => exact absurd rfl hl
      | cons _ _ => simp [D.blks]
    rw [hbl] at hgn
    have Hbl := Lib.hid hbl
    clear hbl
    have hgb : g ≠ b := fun e => hgn (by simp [e])
    have hgb' : b ≠ g := fun e => hgb e.symm
    have Hfz := Lib.hid hfz
    go_enter Try.func89, Try.ntmps89
    go_wp2_with fail
    go_loopw [46] (fun i wr => ∃ j : Nat, j ≤ l.length ∧ i = .int .i64 j ∧ D.RowIs wr b p (D.swL sa sb (l.take j) ++ l.drop j) ∧ D.OwnL lo hi wr (D.swL sa sb (l.take j) ++ l.drop j) ∧ Hid (∀ q, wr.frozen? ⟨b, q, none⟩ = false) ∧
      Hid (∀ q, q ≠ o + 2 → wr.cell? ⟨g, q, none⟩ = w.cell? ⟨g, q, none⟩) ∧ Hid (wr.cell? ⟨g, o + 2, none⟩ = some (.string t)) ∧ Hid (∀ q, wr.frozen? ⟨g, q, none⟩ = w.frozen? ⟨g, q, none⟩) ∧ Chg (g :: b :: D.blksL l) w wr) (fun i _ => l.length - (intOf i).toNat)
    case atStart =>
      refine ⟨0, Nat.zero_le _, rfl, ?_, ?_, ?_, fun q h => rfl, c2, fun q => rfl, Chg.refl _ _⟩
      · simp only [List.take_zero, D.swL, List.drop_zero, List.nil_append]
        exact hrow
      · simp only [List.take_zero, D.swL, List.drop_zero, List.nil_append]
        exact hol
      · exact hfz
    case round =>
      obtain ⟨j, hj, rfl, hr, ho, Hfr, HS, HT, HG, hch⟩ := hrel
      have hs2 := hch.size
      by_cases hlt : j < l.length
      · rw [List.drop_eq_getElem_cons hlt] at hr ho
        have hpre : (D.swL sa sb (l.take j)).length = j := by rw [D.swL_length, List.length_take]; omega
        have hx : (D.swL sa sb (l.take j) ++ l[j] :: l.drop (j + 1))[j]? = some l[j] := by rw [List.getElem?_append_right (by omega), hpre]; simp
        have hcs := hr j _ hx
        have hoj := ho.mid
        have hsx := D.sizeL_mem (l := l) (List.getElem_mem hlt)
        have hbn' : b ∉ D.blksL (D.swL sa sb (l.take j) ++ l[j] :: l.drop (j + 1)) := by
          rw [← List.drop_eq_getElem_cons hlt, D.blksL_append, D.blksL_sw, ← D.blksL_append, List.take_append_drop]; exact hbn
        have hbx : b ∉ D.blks l[j] := fun h => hbn' (by simp only [D.blksL_append, D.blksL, List.mem_append]; exact Or.inr (Or.inl h))
        have c3r : wr.cell? ⟨g, o + 3, none⟩ = some (.slice (some ⟨b, p, none⟩) l.length c) := (HS.out (o + 3) (by omega)).trans c3
        have Hx := Lib.hid hx
        have Hp := Lib.hid hpre
        have HA : Hid (D.At wr b (p + j * 4) l[j]) := ⟨hcs.1, hcs.2.1, hcs.2.2.1, hcs.2.2.2⟩
        clear hx hpre hfz hcs c0 c1 c2 f2
        go_wp2_with fail
        refine (ih l[j] b (p + j * 4) lo hi _ (by omega) (by omega) HA.out Hfr.out (by omega) hbx hoj (by omega)).mono ?_
        rintro e w2 ⟨rfl, hp⟩
        have hmr := swap_round (by omega) (by omega) hr ho hbn' Hp.out Hfr.out hp
        have Hmr := Lib.hid hmr
        have Hbb := Lib.hid hbn'
        clear hmr hp hbn' hoj
        go_wp2_with fail
        obtain ⟨m1, m2, m3, m4⟩ := Hmr.out
        have eM : D.swL sa sb (l.take (j + 1)) ++ l.drop (j + 1) = D.swL sa sb (l.take j) ++ D.sw sa sb l[j] :: l.drop (j + 1) := by rw [List.take_succ_eq_append_getElem hlt, D.swL_append]; simp [D.swL]
        have hsub : ∀ y, y ∈ b :: D.blksL (D.swL sa sb (l.take j) ++ l[j] :: l.drop (j + 1)) → y ∈ b :: D.blksL l := by
          intro y hy
          rwa [← List.drop_eq_getElem_cons hlt, D.blksL_append, D.blksL_sw, ← D.blksL_append, List.take_append_drop] at hy
        have hgg : w2.heap[g]? = wr.heap[g]? := m4.block g (by omega) (fun hm => hgn (hsub g hm))
        refine ⟨⟨j + 1, by omega, by go_num, by rw [eM]; exact m1, by rw [eM]; exact m2, m3, fun q hq => (World.cell?_of_block (a := ⟨g, q, none⟩) hgg).trans (HS.out q hq), (World.cell?_of_block (a := ⟨g, o + 2, none⟩) hgg).trans HT.out, fun q => (World.frozen?_of_block (a := ⟨g, q, none⟩) hgg).trans (HG.out q), hch.trans (m4.mono fun y hy => List.mem_cons_of_mem _ (hsub y hy))⟩, by simp [intOf]; omega⟩
      · have hj' : j = l.length := by omega
        subst hj'
        have Hch := Lib.hid hch
        clear c0 c1 c2 c3 f2
        go_wp2_with fail
        rw [List.take_length] at hr ho
        simp only [List.drop_length, List.append_nil] at hr ho
        refine bodyPost_end (v := .tuple #[]) (results_none Try.results89 _ _ _) rfl ⟨rfl, HS.out, ?_, HG.out, ?_, by rw [Hbl.out]; exact Hch.out⟩
        · simp only [D.k, D.t]; rw [HX.out]; exact HT.out
        · simp only [D.sw]
          exact D.Own.join ho (by rw [D.swL_length, HX.out]; exact ⟨hcap.1, hcap.2.1, Hsz.out⟩) hblo hbhi (by rw [D.blksL_sw]; exact hbn) Hfr.out hr

set_option maxRecDepth 100000 in
set_option maxHeartbeats 1000000 in
theorem swapIn_si4 (sa sb : ByteArray) (ha : sa.size ≤ 9223372036854775807) (hb : sb.size ≤ 9223372036854775807) (m : Nat) (ih : SwInOk sa sb m) (k n : Int) (t : ByteArray) (A : Option Addr) (c : Nat) (l : List D) (g o lo hi : Nat) (w : World) (hm : (D.mk k n t A c l).size ≤ m + 1) (hm2 : m + 1 ≤ 2000000)
    (hat : D.At w g o (.mk k n t A c l)) (hfr : ∀ q, w.frozen? ⟨g, q, none⟩ = false) (hg : g < w.heap.size) (hgn : g ∉ (D.mk k n t A c l).blks) (hown : (D.mk k n t A c l).Own lo hi w) (hhi : hi ≤ w.heap.size) (hk : ¬ k = 1) :
    Calls Try.prog 89 #[.pointer (some ⟨g, o, none⟩), .string sa, .string sb] w fun e w' => e = .returned (.tuple #[]) ∧ SwapPost sa sb (.mk k n t A c l) g o lo hi w w' := by
  have hcap := hown.inn.cap
  have hX : D.swT sa sb k t = t := by simp [D.swT, hk]
  have hk0 : (k == 1) = false := by simpa using hk
  have HX := Lib.hid hX
  have Hsz : Hid (t.size ≤ 9223372036854775807) := by have := hcap.2.2; simp only [D.t] at this; first | exact ha | exact hb | exact this
  clear hX ha hb hk
  obtain ⟨c0, c1, c2, c3⟩ := hat
  simp only [D.l, D.c, D.t, D.A, D.k, D.n] at hcap c0 c1 c2 c3
  have f2 := hfr (o + 2)
  have HF := Lib.hid hfr
  clear hfr
  have hll := D.length_le_sizeL l
  have hmm : D.sizeL l ≤ m := by simp only [D.size] at hm; omega
  by_cases hl : l = []
  · subst hl
    go_enter Try.func89, Try.ntmps89
    go_wp2_with fail
    go_loopw [46] (fun i wr => i = .int .i64 0 ∧ wr = w) (fun _ _ => 0)
    case atStart => exact ⟨rfl, rfl⟩
    case round =>
      obtain ⟨rfl, rfl⟩ := hrel
      go_wp2_with fail
      refine bodyPost_end (v := .tuple #[]) (results_none Try.results89 _ _ _) rfl ⟨rfl, fun q h => rfl, ?_, fun q => rfl, ?_, Chg.refl _ _⟩
      · simp only [D.k, D.t]; rw [HX.out]; exact c2
      · simp only [D.sw, D.swL]; exact D.Own.no_items hcap.2.1 (by rw [HX.out]; exact Hsz.out)
  · obtain ⟨b, p, rfl, hblo, hbhi, hbn, hfz, hrow, hol⟩ := hown.parts hl
    have hbl : (D.mk k n t (some ⟨b, p, none⟩) c l).blks = b :: D.blksL l := by
      cases l with
      | nil => exact absurd rfl hl
      | cons _ _ => simp [D.blks]
    rw [hbl] at hgn
    have Hbl := Lib.hid hbl
    clear hbl
    have hgb : g ≠ b := fun e => hgn (by simp [e])
    have hgb' : b ≠ g := fun e => hgb e.symm
    have Hfz := Lib.hid hfz
    go_enter Try.func89, Try.ntmps89
    go_wp2_with fail
    go_loopw [46] (fun i wr => ∃ j : Nat, j ≤ l.length ∧ i = .int .i64 j ∧ D.RowIs wr b p (D.swL sa sb (l.take j) ++ l.drop j) ∧ D.OwnL lo hi wr (D.swL sa sb (l.take j) ++ l.drop j) ∧ Hid (∀ q, wr.frozen? ⟨b, q, none⟩ = false) ∧
      Hid (∀ q, q ≠ o + 2 → wr.cell? ⟨g, q, none⟩ = w.cell? ⟨g, q, none⟩) ∧ Hid (wr.cell? ⟨g, o + 2, none⟩ = some (.string t)) ∧ Hid (∀ q, wr.frozen? ⟨g, q, none⟩ = w.frozen? ⟨g, q, none⟩) ∧ Chg (g :: b :: D.blksL l) w wr) (fun i _ => l.length - (intOf i).toNat)
    case atStart =>
      refine ⟨0, Nat.zero_le _, rfl, ?_, ?_, ?_, fun q h => rfl, c2, fun q => rfl, Chg.refl _ _⟩
      · simp only [List.take_zero, D.swL, List.drop_zero, List.nil_append]
        exact hrow
      · simp only [List.take_zero, D.swL, List.drop_zero, List.nil_append]
        exact hol
      · exact hfz
    case round =>
      obtain ⟨j, hj, rfl, hr, ho, Hfr, HS, HT, HG, hch⟩ := hrel
      have hs2 := hch.size
      by_cases hlt : j < l.length
      · rw [List.drop_eq_getElem_cons hlt] at hr ho
        have hpre : (D.swL sa sb (l.take j)).length = j := by rw [D.swL_length, List.length_take]; omega
        have hx : (D.swL sa sb (l.take j) ++ l[j] :: l.drop (j + 1))[j]? = some l[j] := by rw [List.getElem?_append_right (by omega), hpre]; simp
        have hcs := hr j _ hx
        have hoj := ho.mid
        have hsx := D.sizeL_mem (l := l) (List.getElem_mem hlt)
        have hbn' : b ∉ D.blksL (D.swL sa sb (l.take j) ++ l[j] :: l.drop (j + 1)) := by
          rw [← List.drop_eq_getElem_cons hlt, D.blksL_append, D.blksL_sw, ← D.blksL_append, List.take_append_drop]; exact hbn
        have hbx : b ∉ D.blks l[j] := fun h => hbn' (by simp only [D.blksL_append, D.blksL, List.mem_append]; exact Or.inr (Or.inl h))
        have c3r : wr.cell? ⟨g, o + 3, none⟩ = some (.slice (some ⟨b, p, none⟩) l.length c) := (HS.out (o + 3) (by omega)).trans c3
        have Hx := Lib.hid hx
        have Hp := Lib.hid hpre
        have HA : Hid (D.At wr b (p + j * 4) l[j]) := ⟨hcs.1, hcs.2.1, hcs.2.2.1, hcs.2.2.2⟩
        clear hx hpre hfz hcs c0 c1 c2 f2
        go_wp2_with fail
        refine (ih l[j] b (p + j * 4) lo hi _ (by omega) (by omega) HA.out Hfr.out (by omega) hbx hoj (by omega)).mono ?_
        rintro e w2 ⟨rfl, hp⟩
        have hmr := swap_round (by omega) (by omega) hr ho hbn' Hp.out Hfr.out hp
        have Hmr := Lib.hid hmr
        have Hbb := Lib.hid hbn'
        clear hmr hp hbn' hoj
        go_wp2_with fail
        obtain ⟨m1, m2, m3, m4⟩ := Hmr.out
        have eM : D.swL sa sb (l.take (j + 1)) ++ l.drop (j + 1) = D.swL sa sb (l.take j) ++ D.sw sa sb l[j] :: l.drop (j + 1) := by rw [List.take_succ_eq_append_getElem hlt, D.swL_append]; simp [D.swL]
        have hsub : ∀ y, y ∈ b :: D.blksL (D.swL sa sb (l.take j) ++ l[j] :: l.drop (j + 1)) → y ∈ b :: D.blksL l := by
          intro y hy
          rwa [← List.drop_eq_getElem_cons hlt, D.blksL_append, D.blksL_sw, ← D.blksL_append, List.take_append_drop] at hy
        have hgg : w2.heap[g]? = wr.heap[g]? := m4.block g (by omega) (fun hm => hgn (hsub g hm))
        refine ⟨⟨j + 1, by omega, by go_num, by rw [eM]; exact m1, by rw [eM]; exact m2, m3, fun q hq => (World.cell?_of_block (a := ⟨g, q, none⟩) hgg).trans (HS.out q hq), (World.cell?_of_block (a := ⟨g, o + 2, none⟩) hgg).trans HT.out, fun q => (World.frozen?_of_block (a := ⟨g, q, none⟩) hgg).trans (HG.out q), hch.trans (m4.mono fun y hy => List.mem_cons_of_mem _ (hsub y hy))⟩, by simp [intOf]; omega⟩
      · have hj' : j = l.length := by omega
        subst hj'
        have Hch := Lib.hid hch
        clear c0 c1 c2 c3 f2
        go_wp2_with fail
        rw [List.take_length] at hr ho
        simp only [List.drop_length, List.append_nil] at hr ho
        refine bodyPost_end (v := .tuple #[]) (results_none Try.results89 _ _ _) rfl ⟨rfl, HS.out, ?_, HG.out, ?_, by rw [Hbl.out]; exact Hch.out⟩
        · simp only [D.k, D.t]; rw [HX.out]; exact HT.out
        · simp only [D.sw]
          exact D.Own.join ho (by rw [D.swL_length, HX.out]; exact ⟨hcap.1, hcap.2.1, Hsz.out⟩) hblo hbhi (by rw [D.blksL_sw]; exact hbn) Hfr.out hr

theorem swapIn_any (sa sb : ByteArray) (ha : sa.size ≤ 9223372036854775807) (hb : sb.size ≤ 9223372036854775807) : ∀ m, SwInOk sa sb m := by
  intro m
  induction m with
  | zero => intro d g o lo hi w h; have := d.size_pos; omega
  | succ m ih =>
    intro d g o lo hi w hm hm2 hat hfr hg hgn hown hhi
    obtain ⟨k, n, t, A, c, l⟩ := d
    by_cases hk : k = 1
    · by_cases ht : t.toList = sa.toList
      · exact swapIn_si1 sa sb ha hb m ih k n t A c l g o lo hi w hm hm2 hat hfr hg hgn hown hhi hk ht
      · by_cases ht2 : t.toList = sb.toList
        · exact swapIn_si2 sa sb ha hb m ih k n t A c l g o lo hi w hm hm2 hat hfr hg hgn hown hhi hk ht ht2
        · exact swapIn_si3 sa sb ha hb m ih k n t A c l g o lo hi w hm hm2 hat hfr hg hgn hown hhi hk ht ht2
    · exact swapIn_si4 sa sb ha hb m ih k n t A c l g o lo hi w hm hm2 hat hfr hg hgn hown hhi hk
end Go.Proofs.Ytiopophoioiafaa
