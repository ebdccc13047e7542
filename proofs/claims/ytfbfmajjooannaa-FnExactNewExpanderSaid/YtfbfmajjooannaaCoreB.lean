/-
  CoreBindings, the model's and the program's.
-/
import Derived.Test.YtfbfmajjooannaaBindM
import Derived.Test.YtfbfmajjooannaaNames
import Derived.Deep.AppendLies
namespace Go.Proofs.Ytfbfmajjooannaa
open Go.RowKit

/-- A row that has grown by append, as a list. -/
theorem Elem.LOwn.of_owns {α : Type} {E : Elem α} {w : World} {base : Nat} {t : TypeId} {v : Value} {ds : List α} (h : w.ownsRow base t E.n v ds.length (E.cellsL ds)) (ho : E.OwnL base w.heap.size w ds) (hap : ∀ g, v.ownBlock = some g → g ∉ E.blksL ds) :
    ∃ A c, v = .slice A ds.length c ∧ E.LOwn base w.heap.size w A c ds := by
  rcases h.2 with ⟨rfl, h0⟩ | ⟨g, cap, cur, rfl, hb, hg, hn, hc, hs, ht⟩
  · have : ds = [] := List.length_eq_zero_iff.1 h0
    subst this
    exact ⟨none, 0, rfl, Elem.LOwn.nil_ (by omega) (by simp)⟩
  · refine ⟨some ⟨g, 0, none⟩, cap, rfl, Elem.LOwn.of_row ho ⟨hn, hc⟩ (hap g rfl) hb (Array.getElem?_eq_some_iff.1 hg).1 (fun q => by simp [World.frozen?, hg]) fun j u hu => ?_⟩
    rw [cell_of_row w g j cur _ (0, 0) hg]
    have h1 : (cur.toList.take (ds.length * E.n))[j]? = some u := by rw [ht]; exact hu
    rw [List.getElem?_take] at h1
    split at h1
    · simpa using h1
    · cases h1
/-- What has been filled, as a row that may grow. -/
theorem Elem.Fill.owns {α : Type} {E : Elem α} {w : World} {g n : Nat} {t : TypeId} {ds : List α} (h : E.Fill w g t n ds) (hn : ds.length = n) (hn2 : n ≤ 9223372036854775807) : w.ownsRow g t E.n (.slice (some ⟨g, 0, none⟩) n n) ds.length (E.cellsL ds) := by
  obtain ⟨cs, h1, h2, h3⟩ := h.row
  refine ⟨by rw [Elem.cellsL_length, Nat.mul_comm], .inr ⟨g, n, cs, by rw [hn], Nat.le_refl _, h1, by omega, hn2, by rw [h2, Nat.mul_comm], ?_⟩⟩
  have e : ds.length * E.n = (E.cellsL ds).length := by rw [Elem.cellsL_length, Nat.mul_comm]
  rw [e]
  apply List.ext_getElem?
  intro i
  rw [List.getElem?_take]
  split
  · rename_i hi
    have hx := List.getElem?_eq_getElem hi
    rw [hx]
    have := h3 i _ hx
    simpa using this
  · rename_i hi
    rw [List.getElem?_eq_none (by omega)]

/-- The bindings of a kind, numbered. -/
def bOf (k : Int) : List ByteArray → Nat → List Bd | [], _ => [] | t :: r, i => ⟨t, none, 0, [], k, i⟩ :: bOf k r (i + 1)
def coreL : List Bd := bOf 1 formN 0 ++ bOf 2 primN 0
theorem bOf_length (k : Int) (l : List ByteArray) : ∀ i, (bOf k l i).length = l.length := by
  induction l with
  | nil => intro i; rfl
  | cons t r ih => intro i; simp [bOf, ih]
theorem bOf_append (k : Int) (a b : List ByteArray) : ∀ i, bOf k (a ++ b) i = bOf k a i ++ bOf k b (i + a.length) := by
  induction a with
  | nil => intro i; simp [bOf]
  | cons t r ih => intro i; simp only [List.cons_append, bOf, ih, List.length_cons]; congr 3; omega
theorem bOf_blks (k : Int) (l : List ByteArray) : ∀ i, Bd.E.blksL (bOf k l i) = [] := by
  induction l with
  | nil => intro i; rfl
  | cons t r ih =>
    intro i
    have e : Bd.E.blksL (bOf k (t :: r) i) = Bd.E.blks ⟨t, none, 0, [], k, i⟩ ++ Bd.E.blksL (bOf k r (i + 1)) := by simp [Elem.blksL, bOf]
    rw [e, ih]; rfl
theorem bOf_er (k : Int) (l : List ByteArray) : ∀ i, Bd.erL (bOf k l i) = bOf k l i := by
  induction l with
  | nil => intro i; rfl
  | cons t r ih => intro i; have := ih (i + 1); simp only [Bd.erL] at this; simp only [bOf, Bd.erL, List.map_cons, this]; rfl
theorem bOf_in (k : Int) (w : World) (B : Nat) (l : List ByteArray) (hl : ∀ t ∈ l, t.size ≤ 9223372036854775807) : ∀ i, ∀ x ∈ bOf k l i, Bd.E.In w B x := by
  induction l with
  | nil => intro i x hx; cases hx
  | cons t r ih =>
    intro i x hx
    rcases List.mem_cons.1 hx with rfl | hx
    · exact ⟨hl t (by simp), IIn.nil_ (Nat.zero_le _) (fun _ => rfl)⟩
    · exact ih (fun t ht => hl t (by simp [ht])) (i + 1) x hx
theorem bOf_own (k : Int) (w : World) (lo hi : Nat) (l : List ByteArray) (hl : ∀ t ∈ l, t.size ≤ 9223372036854775807) (i : Nat) : Bd.E.OwnL lo hi w (bOf k l i) :=
  ⟨bOf_in k w hi l hl i, by simp [bOf_blks], by simp [bOf_blks], by simp [bOf_blks]⟩
theorem bOf_step (k : Int) (l : List ByteArray) (j : Nat) (h : j < l.length) : bOf k (l.take (j + 1)) 0 = bOf k (l.take j) 0 ++ [⟨l[j], none, 0, [], k, j⟩] := by
  rw [List.take_succ_eq_append_getElem h, bOf_append]
  have e : (l.take j).length = j := by rw [List.length_take]; omega
  rw [e, Nat.zero_add]
  rfl
theorem bnews (w : World) (t : ByteArray) (k n : Int) (T : TypeId) : ∀ j u, [Value.string t, .slice none 0 0, .int .i64 k, .int .i64 n][j]? = some u → (w.alloc (.cells #[.string t, .slice none 0 0, .int .i64 k, .int .i64 n] T)).cell? ((⟨w.heap.size, 0, none⟩ : Addr).add j) = some u := by
  intro j u hj
  have e : (⟨w.heap.size, 0, none⟩ : Addr).add j = ⟨w.heap.size, j, none⟩ := by unfold Addr.add; split <;> simp_all
  rw [e, cell_of_row _ _ _ _ _ _ (heap_alloc_new w _)]
  simpa using hj
theorem bone (t : ByteArray) (k n : Int) : ∀ u ∈ [Value.string t, .slice none 0 0, .int .i64 k, .int .i64 n], u.oneCell' = true := by
  intro u hu
  simp only [List.mem_cons, List.not_mem_nil, or_false] at hu
  rcases hu with rfl | rfl | rfl | rfl <;> rfl
theorem blit_own {t : ByteArray} {k n : Int} {lo hi : Nat} {w : World} (ht : t.size ≤ 9223372036854775807) : Bd.E.Own lo hi w ⟨t, none, 0, [], k, n⟩ := bd_own ht (IOwn.nil_ (Nat.zero_le _) (fun _ => rfl))
theorem formN_sz : ∀ t ∈ formN, t.size ≤ 9223372036854775807 := by decide
theorem primN_sz : ∀ t ∈ primN, t.size ≤ 9223372036854775807 := by decide

set_option maxRecDepth 100000 in
set_option maxHeartbeats 1000000 in
/-- bindingsOf. -/
theorem bindOf_any (k : Int) (A : Option Addr) (c : Nat) (l : List ByteArray) (B : Nat) (w : World) (hll : l.length ≤ 1000) (hsz : ∀ t ∈ l, t.size ≤ 9223372036854775807) (hin : TIn w B A c l) (hB : B ≤ w.heap.size) :
    Calls Try.prog 82 #[.int .i64 k, .slice A l.length c] w fun e w' => e = .returned (.slice (some ⟨w.heap.size, 0, none⟩) l.length l.length) ∧ w'.ownsRow w.heap.size 123 4 (.slice (some ⟨w.heap.size, 0, none⟩) l.length l.length) (bOf k l 0).length (Bd.E.cellsL (bOf k l 0)) ∧ Below w.heap.size w w' := by
  have hcap := hin.cap
  obtain ⟨i0, hi0, hz0, hz1, hz2⟩ := info_parts infoB
  have hmk := fun W => run_make_rowN (P := Try.prog) 24 123 i0 _ Try.underlying24 hi0 hz0 .i64 .i64 l.length l.length (Nat.le_refl _) (by rw [hz2]; omega) (by omega) W
  rw [hz1] at hmk
  go_enter Try.func82, Try.ntmps82
  go_wp2_with fail
  go_loopw [13] (fun i wr => ∃ j : Nat, j ≤ l.length ∧ i = .int .i64 j ∧ Bd.E.Fill wr w.heap.size 123 l.length (bOf k (l.take j) 0) ∧ Below w.heap.size w wr) (fun i _ => l.length - (intOf i).toNat)
  case atStart => exact ⟨0, Nat.zero_le _, rfl, Elem.Fill.new w _ (by rw [size_madeCells]; show l.length * 4 = 4 * l.length; omega), (Below.refl _ _).alloc (Nat.le_refl _) _⟩
  case round =>
    obtain ⟨j, hj, rfl, hF, hb⟩ := hrel
    by_cases hlt : j < l.length
    · obtain ⟨b, o, rfl, hblk, c0⟩ := (hin.below (hb.mono hB)).at_ hlt
      have hs2 := hb.size
      have e4 : Bd.E.n = 4 := rfl
      have hlen : (bOf k (l.take j) 0).length = j := by rw [bOf_length, List.length_take]; omega
      obtain ⟨v0, hc0⟩ := hF.row.old (i := j * 4) (by rw [e4]; omega)
      obtain ⟨v1, hc1⟩ := hF.row.old (i := j * 4 + 1) (by rw [e4]; omega)
      obtain ⟨v2, hc2⟩ := hF.row.old (i := j * 4 + 2) (by rw [e4]; omega)
      obtain ⟨v3, hc3⟩ := hF.row.old (i := j * 4 + 3) (by rw [e4]; omega)
      have f0 := hF.row.frozen (j * 4)
      have f1 := hF.row.frozen (j * 4 + 1)
      have f2 := hF.row.frozen (j * 4 + 2)
      have f3 := hF.row.frozen (j * 4 + 3)
      have hst := hF.step (w := wr) (d := ⟨l[j], none, 0, [], k, j⟩) (Below.refl _ _) (blit_own (hsz _ (List.getElem_mem hlt))) (by omega)
      have ej : Bd.E.n * (bOf k (l.take j) 0).length = j * 4 := by rw [e4, hlen]; omega
      rw [ej, ← bOf_step k l j hlt] at hst
      have Hst := Lib.hid hst
      clear hst e4 ej hlen
      go_wp2_with fail
      refine ⟨⟨j + 1, by omega, by go_num, Hst.out, ?_⟩, by simp [intOf]; omega⟩
      exact (((hb.setCell (by simp) _).setCell (by simp) _).setCell (by simp) _).setCell (by simp) _
    · have hj' : j = l.length := by omega
      subst hj'
      rw [List.take_length] at hF
      have hdone := hF.owns (by rw [bOf_length]) (by omega)
      have HD := Lib.hid hdone
      clear hdone hF
      go_wp2_with fail
      go_ret
      exact ⟨rfl, HD.out, hb⟩

set_option maxRecDepth 100000 in
set_option maxHeartbeats 1000000 in
theorem implCore_any (w : World) : Calls Try.prog 34 #[] w (RetBL coreL w) := by
  obtain ⟨i0, hi0, hz0, hz1, hz2⟩ := info_parts infoB
  have hfl : formN.length = 12 := rfl
  have hpl : primN.length = 14 := rfl
  go_enter Try.func34, Try.ntmps34
  go_wp2_with fail
  refine (iformN_any _).mono ?_
  rintro e w1 ⟨A1, c1, rfl, o1, hb1⟩
  have z1 := hb1.size
  go_wp2_with fail
  refine (bindOf_any 1 A1 c1 formN _ _ (by rw [hfl]; omega) formN_sz o1.inn (Nat.le_refl _)).mono ?_
  rintro e w2 ⟨rfl, r2, hb2⟩
  have z2 := hb2.size
  have b2 := hb1.trans (hb2.mono (by omega))
  clear hb1 hb2
  go_wp2_with fail
  refine (iprimN_any _).mono ?_
  rintro e w3 ⟨A3, c3, rfl, o3, hb3⟩
  have z3 := hb3.size
  go_wp2_with fail
  refine (bindOf_any 2 A3 c3 primN _ _ (by rw [hpl]; omega) primN_sz o3.inn (Nat.le_refl _)).mono ?_
  rintro e w4 ⟨rfl, r4, hb4⟩
  have z4 := hb4.size
  have b34 := hb3.trans (hb4.mono z3)
  have b4 := b2.trans (b34.mono (by omega))
  have r2' : w4.ownsRow w1.heap.size 123 4 (.slice (some ⟨w1.heap.size, 0, none⟩) formN.length formN.length) (bOf 1 formN 0).length (Bd.E.cellsL (bOf 1 formN 0)) := by
    rcases r2 with ⟨h0, ⟨h1, _⟩ | ⟨g, cap, cur, e, hb, hg, hn, hc, hs, ht⟩⟩
    · cases h1
    · refine ⟨h0, .inr ⟨g, cap, cur, e, hb, ?_, hn, hc, hs, ht⟩⟩
      exact (b34.block g (Array.getElem?_eq_some_iff.1 hg).1).trans hg
  have hnew : ∀ j u, (Bd.E.cellsL (bOf 2 primN 0))[j]? = some u → w4.cell? ((⟨w3.heap.size, 0, none⟩ : Addr).add j) = some u := by
    intro j u hu
    have e : (⟨w3.heap.size, 0, none⟩ : Addr).add j = ⟨w3.heap.size, j, none⟩ := by unfold Addr.add; split <;> simp_all
    rw [e]
    rcases r4.2 with ⟨h1, _⟩ | ⟨g, cap, cur, e, hb, hg, hn, hc, hs, ht⟩
    · cases h1
    · have eg : w3.heap.size = g := by injection e with e1 _ _; injection e1 with e2; injection e2
      subst eg
      rw [cell_of_row _ _ _ _ _ _ hg]
      rw [← ht, List.getElem?_take] at hu
      split at hu
      · simpa using hu
      · cases hu
  have hl1 : (bOf 1 formN 0).length = 12 := by rw [bOf_length]; rfl
  have hl2 : (bOf 2 primN 0).length = 14 := by rw [bOf_length]; rfl
  rw [hfl, hl1] at r2'
  rw [hpl]
  have hlc : (Bd.E.cellsL (bOf 2 primN 0)).length = 14 * 4 := by rw [Elem.cellsL_length, hl2]; rfl
  clear r2 r4 hb3 hb4 b34 o1 o3
  go_wp2_with (at_builtin; refine wpList_append_lies _ rfl (.tmp 2) (.tmp 4) 24 rfl w1.heap.size 123 i0 (.agg #[.string ⟨#[]⟩, .slice none 0 0, .int .i64 0, .int .i64 0]) 4 56 Try.underlying24 hi0 hz0 hz1 hz2 rfl (by decide) _ 12 (Bd.E.cellsL (bOf 1 formN 0)) rfl r2' ⟨w3.heap.size, 0, none⟩ 14 14 (Bd.E.cellsL (bOf 2 primN 0)) rfl hlc hnew (Elem.cellsL_one' _) (by decide) (by decide) (by decide) (by omega) w4.heap.size rfl ?_)
  intro g cap w5 hown hgr hat hlt
  have hz5 := hgr.size
  have hown2 : w5.ownsRow w1.heap.size 123 Bd.E.n (.slice (some ⟨g, 0, none⟩) (12 + 14) cap) coreL.length (Bd.E.cellsL coreL) := by
    have e1 : coreL.length = 12 + 14 := by unfold coreL; rw [List.length_append, hl1, hl2]
    have e2 : Bd.E.cellsL coreL = Bd.E.cellsL (bOf 1 formN 0) ++ Bd.E.cellsL (bOf 2 primN 0) := Elem.cellsL_append _ _
    rw [e1, e2]; exact hown
  have hbk : Bd.E.blksL coreL = [] := by unfold coreL; rw [Elem.blksL_append, bOf_blks, bOf_blks]; rfl
  have hel : Bd.E.OwnL w1.heap.size w5.heap.size w5 coreL := ⟨fun x hx => by
      unfold coreL at hx
      rcases List.mem_append.1 hx with hx | hx
      · exact bOf_in 1 _ _ formN formN_sz 0 x hx
      · exact bOf_in 2 _ _ primN primN_sz 0 x hx, by simp [hbk], by simp [hbk], by simp [hbk]⟩
  obtain ⟨A, c, ev, hL⟩ := Elem.LOwn.of_owns hown2 hel (fun g' _ hm => by rw [hbk] at hm; cases hm)
  have hb5 : Below w.heap.size w w5 := b4.grown hgr (by omega) (fun k hk => by have e : w1.heap.size = k := Option.some.inj hk; omega)
  have hcl : coreL.length = 26 := by unfold coreL; rw [List.length_append, hl1, hl2]
  have he : Bd.erL coreL = coreL := by unfold coreL; rw [Bd.erL_append, bOf_er, bOf_er]
  have HE := Lib.hid he
  have HL := Lib.hid (hL.wide (lo' := w.heap.size) (by omega) (Nat.le_refl _))
  have HV := Lib.hid ev
  clear he hL ev hown hown2 hel hbk hcl hl1 hl2 hlc hnew r2' hfl hpl hgr hat
  go_wp2_with fail
  go_ret
  exact ⟨A, c, coreL, by rw [← HV.out]; rfl, HE.out, HL.out, hb5⟩

/-- A row that has grown: nothing else that was there has changed. -/
def Elem.Grew {α : Type} (E : Elem α) (t : TypeId) (base : Nat) (ds : List α) (v : Value) (w : World) (v' : Value) (w' : World) : Prop :=
  w'.ownsRow base t E.n v' ds.length (E.cellsL ds) ∧ Chg v.ownBlock.toList w w' ∧ (v'.ownBlock = v.ownBlock ∨ ∀ g, v'.ownBlock = some g → w.heap.size ≤ g)
theorem Elem.Grew.refl {α : Type} {E : Elem α} {t : TypeId} {base : Nat} {ds : List α} {v : Value} {w : World} (h : w.ownsRow base t E.n v ds.length (E.cellsL ds)) : E.Grew t base ds v w v w := ⟨h, Chg.refl _ _, .inl rfl⟩
theorem Elem.Grew.trans {α : Type} {E : Elem α} {t : TypeId} {base : Nat} {ds ds2 : List α} {v v1 v2 : Value} {w w1 w2 : World} (h : E.Grew t base ds v w v1 w1) (k : E.Grew t base ds2 v1 w1 v2 w2) : E.Grew t base ds2 v w v2 w2 := by
  obtain ⟨h1, h2, h3⟩ := h
  obtain ⟨k1, k2, k3⟩ := k
  refine ⟨k1, ⟨k2.os.trans h2.os, k2.tape.trans h2.tape, k2.output.trans h2.output, Nat.le_trans h2.size k2.size, fun b hb hn => ?_⟩, ?_⟩
  · refine (k2.block b (Nat.lt_of_lt_of_le hb h2.size) fun hm => ?_).trans (h2.block b hb hn)
    rcases h3 with e | e
    · rw [e] at hm; exact hn hm
    · have := e b (by simpa using hm); omega
  · rcases k3 with e | e
    · rw [e]; exact h3
    · exact .inr fun g hg => Nat.le_trans h2.size (e g hg)
/-- One element more, appended out of a new block. -/
theorem Elem.Grew.snoc {α : Type} {E : Elem α} {t : TypeId} {base : Nat} {ds : List α} {x : α} {v v' : Value} {w w1 : World} {o : Obj}
    (hown' : w1.ownsRow base t E.n v' (ds.length + 1) (E.cellsL ds ++ E.cells x)) (hgr : (w.alloc o).grownBy w1 v.ownBlock) (hat : v'.ownBlock = v.ownBlock ∨ ∀ g, v'.ownBlock = some g → w.heap.size ≤ g) : E.Grew t base (ds ++ [x]) v w v' w1 := by
  refine ⟨by rw [List.length_append, Elem.cellsL_append, Elem.cellsL_one]; exact hown', ⟨hgr.os, hgr.tape, hgr.output, by have := hgr.size; simp at this; omega, fun b hb hn => ?_⟩, hat⟩
  rw [hgr.block b (by simp; omega) (fun e => hn (by rw [← e]; simp))]
  exact Below.heap_alloc _ _ _ hb

set_option maxRecDepth 100000 in
set_option maxHeartbeats 2000000 in
theorem specCore_any (w : World) : Calls Try.prog 33 #[] w (RetBL coreL w) := by
  obtain ⟨i0, hi0, hz0, hz1, hz2⟩ := info_parts infoB
  have hfl : formN.length = 12 := rfl
  have hpl : primN.length = 14 := rfl
  have r0 : (w.alloc (.cells #[] 123)).ownsRow w.heap.size 123 4 (.slice (some ⟨w.heap.size, 0, none⟩) 0 0) ([] : List Bd).length (Bd.E.cellsL []) := World.ownsRow_made w #[] 0 (Nat.le_refl _) (by unfold maxLen; omega) (by simp)
  have b0 : Below w.heap.size w (w.alloc (.cells #[] 123)) := (Below.refl _ _).alloc (Nat.le_refl _) _
  go_enter Try.func33, Try.ntmps33
  go_wp2_with fail
  refine (sformN_any _).mono ?_
  rintro e w1 ⟨A1, c1, rfl, o1, hb1⟩
  have z1 := hb1.size
  simp only [World.size_alloc] at z1
  have r1 : w1.ownsRow w.heap.size 123 4 (.slice (some ⟨w.heap.size, 0, none⟩) 0 0) ([] : List Bd).length (Bd.E.cellsL []) := by
    rcases r0 with ⟨h0, ⟨h1, _⟩ | ⟨g, cap, cur, e, hb, hg, hn, hc, hs, ht⟩⟩
    · cases h1
    · exact ⟨h0, .inr ⟨g, cap, cur, e, hb, (hb1.block g (Array.getElem?_eq_some_iff.1 hg).1).trans hg, hn, hc, hs, ht⟩⟩
  have b1 := b0.trans (hb1.mono (by simp))
  have i1 := o1.inn
  have l1 := o1.lo_
  simp only [World.size_alloc] at l1
  clear r0 b0 hb1 o1
  go_wp2_with fail
  go_loopw [1, 9] (fun v i wr => ∃ (j : Nat) (y : Value), y = v ∧ j ≤ 12 ∧ i = .int .i64 j ∧ Bd.E.Grew 123 w.heap.size ( bOf 1 (formN.take j) 0) (.slice (some ⟨w.heap.size, 0, none⟩) 0 0) w1 y wr) (fun _ i _ => 12 - (intOf i).toNat)
  case atStart => exact ⟨0, _, rfl, Nat.zero_le _, rfl, Elem.Grew.refl r1⟩
  case round =>
    obtain ⟨j, y, rfl, hj, rfl, hG⟩ := hrel
    have hs2 := hG.2.1.size
    have hti : TIn wr w1.heap.size A1 c1 formN := i1.keep fun k hk => hG.2.1.block k (i1.blk_lt k hk) (fun hm => by have hl := l1 k hk; simp [Value.ownBlock] at hm; omega)
    by_cases hlt : j < 12
    · have hlt' : j < formN.length := hlt
      obtain ⟨b, o, rfl, hblk, c0⟩ := hti.at_ hlt'
      have hstep := bOf_step 1 formN j hlt'
      have hlen : ( bOf 1 (formN.take j) 0).length = j := by rw [bOf_length, List.length_take]; omega
      have hown := hG.1
      rw [hlen] at hown
      have HST := Lib.hid hstep
      have HLEN := Lib.hid hlen
      have HG := Lib.hid hG
      clear hstep hlen hG
      have hb := HG.out.2.1
      go_wp2_with (at_builtin; refine wpList_append_lies _ rfl (.tmp 14) (.tmp 18) 24 rfl w.heap.size 123 i0 (.agg #[.string ⟨#[]⟩, .slice none 0 0, .int .i64 0, .int .i64 0]) 4 56 Try.underlying24 hi0 hz0 hz1 hz2 rfl (by decide) _ (j) (Bd.E.cellsL ( bOf 1 (formN.take j) 0)) rfl (hown.alloc _) ⟨wr.heap.size, 0, none⟩ 1 1 [.string formN[j], .slice none 0 0, .int .i64 1, .int .i64 j] rfl rfl (bnews _ _ _ _ _) (bone _ _ _) (by decide) (by unfold maxLen; omega) (by omega) (by simp; omega) (wr.heap.size + 1) ?c2 ?_)
      case c2 => simp
      intro g cap w9 hown' hgr hat hlt3
      have hS : Bd.E.Grew 123 w.heap.size (( bOf 1 (formN.take j) 0) ++ [⟨formN[j], none, 0, [], 1, j⟩]) _ wr (.slice (some ⟨g, 0, none⟩) (j + 1) cap) w9 := Elem.Grew.snoc (by rw [HLEN.out]; exact hown') hgr (by
        rcases hat with e | e
        · exact .inl e.symm
        · exact .inr fun g' hg' => by have e' : g = g' := Option.some.inj hg'; omega)
      have hG2 := HG.out.trans hS
      rw [ ← HST.out] at hG2
      have HG2 := Lib.hid hG2
      clear hS hG2 hown' hgr hat hown
      go_wp2_with fail
      exact ⟨⟨j + 1, _, rfl, by omega, by go_num, HG2.out⟩, by simp [intOf]; omega⟩
    · have hj' : j = 12 := by omega
      subst hj'
      have e1 : formN.take 12 = formN := rfl
      rw [e1] at hG
      have HG := Lib.hid hG
      have b2 : Below w.heap.size w wr := b1.trans (hG.2.1.below (fun k hk => by simp [Value.ownBlock] at hk; omega) (by omega))
      have hvl : ∀ g, y.ownBlock = some g → g < wr.heap.size := fun g hg => (hG.1.lt g hg).2
      have HVL := Lib.hid hvl
      clear hG hvl e1 r1 hti
      go_wp2_with fail
      refine (sprimN_any _).mono ?_
      rintro e w3 ⟨A3, c3, rfl, o3, hb3⟩
      have z3 := hb3.size
      have hr := HG.out.1
      have r3 : w3.ownsRow w.heap.size 123 4 y (bOf 1 formN 0).length (Bd.E.cellsL (bOf 1 formN 0)) := by
        rcases hr with ⟨h0, ⟨h1, h2⟩ | ⟨g, cap, cur, e, hb, hg, hn, hc, hs, ht⟩⟩
        · exact ⟨h0, .inl ⟨h1, h2⟩⟩
        · exact ⟨h0, .inr ⟨g, cap, cur, e, hb, (hb3.block g (Array.getElem?_eq_some_iff.1 hg).1).trans hg, hn, hc, hs, ht⟩⟩
      have b3 := b2.trans (hb3.mono (by omega))
      have i3 := o3.inn
      have l3 := o3.lo_
      obtain ⟨W3, hW3⟩ : ∃ W3 : World, W3 = w3 := ⟨_, rfl⟩
      clear HG hr hb3 o3 b1 b2 i1 l1
      go_wp2_with fail
      go_loopw [1, 23] (fun v i wr => ∃ (j : Nat) (x : Value), x = v ∧ j ≤ 14 ∧ i = .int .i64 j ∧ Bd.E.Grew 123 w.heap.size (bOf 1 formN 0 ++ bOf 2 (primN.take j) 0) (y) w3 x wr) (fun _ i _ => 14 - (intOf i).toNat)
      case atStart => exact ⟨0, _, rfl, Nat.zero_le _, rfl, (by have e : bOf 1 formN 0 ++ bOf 2 (primN.take 0) 0 = bOf 1 formN 0 := (by simp [bOf]); rw [e]; exact Elem.Grew.refl r3)⟩
      case round =>
        obtain ⟨j, x, rfl, hj, rfl, hG⟩ := hrel
        have hs2 := hG.2.1.size
        have hti : TIn wr w3.heap.size A3 c3 primN := i3.keep fun k hk => hG.2.1.block k (i3.blk_lt k hk) (fun hm => by have hl := l3 k hk; have hx := HVL.out k (by simpa using hm); omega)
        by_cases hlt : j < 14
        · have hlt' : j < primN.length := hlt
          obtain ⟨b, o, rfl, hblk, c0⟩ := hti.at_ hlt'
          have hstep := bOf_step 2 primN j hlt'
          have hlen : (bOf 1 formN 0 ++ bOf 2 (primN.take j) 0).length = 12 + j := by rw [List.length_append, bOf_length, bOf_length, List.length_take]; omega
          have hown := hG.1
          rw [hlen] at hown
          have HST := Lib.hid hstep
          have HLEN := Lib.hid hlen
          have HG := Lib.hid hG
          clear hstep hlen hG
          have hb := HG.out.2.1
          go_wp2_with (at_builtin; refine wpList_append_lies _ rfl (.tmp 28) (.tmp 32) 24 rfl w.heap.size 123 i0 (.agg #[.string ⟨#[]⟩, .slice none 0 0, .int .i64 0, .int .i64 0]) 4 56 Try.underlying24 hi0 hz0 hz1 hz2 rfl (by decide) _ (12 + j) (Bd.E.cellsL (bOf 1 formN 0 ++ bOf 2 (primN.take j) 0)) rfl (hown.alloc _) ⟨wr.heap.size, 0, none⟩ 1 1 [.string primN[j], .slice none 0 0, .int .i64 2, .int .i64 j] rfl rfl (bnews _ _ _ _ _) (bone _ _ _) (by decide) (by unfold maxLen; omega) (by omega) (by simp; omega) (wr.heap.size + 1) ?c2 ?_)
          case c2 => simp
          intro g cap w9 hown' hgr hat hlt3
          have hS : Bd.E.Grew 123 w.heap.size ((bOf 1 formN 0 ++ bOf 2 (primN.take j) 0) ++ [⟨primN[j], none, 0, [], 2, j⟩]) _ wr (.slice (some ⟨g, 0, none⟩) (12 + j + 1) cap) w9 := Elem.Grew.snoc (by rw [HLEN.out]; exact hown') hgr (by
            rcases hat with e | e
            · exact .inl e.symm
            · exact .inr fun g' hg' => by have e' : g = g' := Option.some.inj hg'; omega)
          have hG2 := HG.out.trans hS
          rw [List.append_assoc, ← HST.out] at hG2
          have HG2 := Lib.hid hG2
          clear hS hG2 hown' hgr hat hown
          go_wp2_with fail
          exact ⟨⟨j + 1, _, rfl, by omega, by go_num, HG2.out⟩, by simp [intOf]; omega⟩
        · have hj' : j = 14 := by omega
          subst hj'
          have e1 : primN.take 14 = primN := rfl
          rw [e1] at hG
          have hbk : Bd.E.blksL coreL = [] := by unfold coreL; rw [Elem.blksL_append, bOf_blks, bOf_blks]; rfl
          have hel : Bd.E.OwnL w.heap.size wr.heap.size wr coreL := ⟨fun x hx => by
              unfold coreL at hx
              rcases List.mem_append.1 hx with hx | hx
              · exact bOf_in 1 _ _ formN formN_sz 0 x hx
              · exact bOf_in 2 _ _ primN primN_sz 0 x hx, by simp [hbk], by simp [hbk], by simp [hbk]⟩
          obtain ⟨A, c, ev, hL⟩ := Elem.LOwn.of_owns (show wr.ownsRow w.heap.size 123 Bd.E.n _ coreL.length (Bd.E.cellsL coreL) from hG.1) hel (fun g' _ hm => by rw [hbk] at hm; cases hm)
          have hb9 : Below w.heap.size w wr := b3.trans (hG.2.1.below (fun k hk => (r3.lt k (by simpa using hk)).1) (by omega))
          have he : Bd.erL coreL = coreL := by unfold coreL; rw [Bd.erL_append, bOf_er, bOf_er]
          have HE := Lib.hid he
          have HL := Lib.hid hL
          have HV := Lib.hid ev
          clear he hL ev hel hbk hG e1 r3 hti
          go_wp2_with fail
          go_ret
          exact ⟨A, c, coreL, by rw [← HV.out]; rfl, HE.out, HL.out, hb9⟩
end Go.Proofs.Ytfbfmajjooannaa
