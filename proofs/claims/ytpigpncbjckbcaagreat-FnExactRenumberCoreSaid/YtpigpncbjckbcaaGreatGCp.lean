/-
  The program's copies of data; ListDatum.
-/
import Derived.Test.YtpigpncbjckbcaaGreatTrees
import Derived.Test.YtpigpncbjckbcaaGreatMarks
import Derived.Deep.AppendLies
import Derived.Deep.RegionHeld3
import Derived.Deep.RegionLaw
namespace Go.Proofs.YtpigpncbjckbcaaGreat
open Go.RowKit
def CpOk (m : Nat) : Prop := ∀ (d : D) (B : Nat) (w : World), d.size ≤ m → m ≤ 2000000 → d.In w B → B ≤ w.heap.size → Calls Tryz.prog 177 #[d.val] w (RetD d.er w)
def CpLOk (m : Nat) : Prop := ∀ (k n : Int) (t : ByteArray) (A : Option Addr) (c : Nat) (l : List D) (B : Nat) (w : World), D.sizeL l ≤ m → m ≤ 2000000 → (D.mk k n t A c l).In w B → B ≤ w.heap.size →
    Calls Tryz.prog 238 #[.slice A l.length c] w (RetL (D.erL l) w)
set_option maxHeartbeats 400000 in
theorem cpL_step (m : Nat) (ih : CpOk m) : CpLOk m := by
  intro k n t A c l B w hm hm2 hin hB
  have hcap := hin.cap
  simp only [D.l, D.c, D.t] at hcap
  have hll := D.length_le_sizeL l
  by_cases hl0 : l.length = 0
  · have e0 : ((l.length : Int) == 0) = true := by simp [hl0]
    have hn : l = [] := List.eq_nil_of_length_eq_zero hl0
    have Hn := Lib.hid hn
    clear hl0 hn
    go_enter Tryz.func238, Tryz.ntmps238
    go_wp2_with fail
    go_ret
    exact ⟨0, 0, ⟨#[]⟩, none, 0, [], rfl, by rw [Hn.out], D.Own.no_items (Nat.zero_le _) (Nat.zero_le _), Below.refl _ _⟩
  have e0 : ((l.length : Int) == 0) = false := by simpa using hl0
  obtain ⟨i0, hi0, hz0, hz1, hz2⟩ := info_parts infoD
  have hmk := fun W => run_make_rowN (P := Tryz.prog) 30 32 i0 _ Tryz.underlying30 hi0 hz0 .i64 .i64 l.length l.length (Nat.le_refl _) (by rw [hz2]; omega) (by omega) W
  rw [hz1] at hmk
  go_enter Tryz.func238, Tryz.ntmps238
  go_wp2_with fail
  go_loopw [14] (fun i wr => ∃ j : Nat, j ≤ l.length ∧ i = .int .i64 j ∧ ∃ ds : List D, Hid (D.erL ds = D.erL (l.take j)) ∧ ds.length ≤ j ∧ j ≤ ds.length ∧ D.RowTo wr w.heap.size 32 l.length ds ∧ D.OwnL (w.heap.size + 1) wr.heap.size wr ds ∧ Below w.heap.size w wr) (fun i _ => l.length - (intOf i).toNat)
  case atStart => exact ⟨0, Nat.zero_le _, rfl, [], by simp [D.erL, Hid], Nat.le_refl _, Nat.le_refl _, ⟨_, D.Blk.new _ _ _, by rw [size_madeCells]; omega, by simp [D.cellsL]⟩, D.OwnL.nil_, (Below.refl _ _).alloc (Nat.le_refl _) _⟩
  case round =>
    obtain ⟨j, hj, rfl, ds, HE, hd1, hd2, hrow, hown, hb⟩ := hrel
    by_cases hlt : j < l.length
    · obtain ⟨b, o, rfl, hblk, c0, c1, c2, c3, hix⟩ := (hin.below (hb.mono hB)).at_ (i := j) (x := l[j]) (List.getElem?_eq_getElem hlt)
      have hs2 := hb.size
      have hsz := D.sizeL_mem (l := l) (List.getElem_mem hlt)
      have hglt : w.heap.size < wr.heap.size := by obtain ⟨cs, h, _⟩ := hrow; exact h.lt
      go_wp2_with fail
      refine (ih l[j] B _ (by omega) (by omega) (hix.alloc (by omega) _) (by simp; omega)).mono ?_
      rintro e w1 ⟨d, rfl, hde, hod, hb1⟩
      simp only [World.size_alloc] at hb1 hod
      have hq1 : Below wr.heap.size wr w1 := ((Below.refl _ _).alloc (Nat.le_refl _) _).trans (hb1.mono (by omega))
      have hod := hod.wide (lo' := wr.heap.size) (by omega) (Nat.le_refl _)
      clear hb1
      have hb1 := hq1
      clear hq1
      have hrow1 := hrow.below hb1 hglt
      obtain ⟨v0, hc0⟩ := hrow1.old (i := j * 4) (by omega)
      obtain ⟨v1, hc1⟩ := hrow1.old (i := j * 4 + 1) (by omega)
      obtain ⟨v2, hc2⟩ := hrow1.old (i := j * 4 + 2) (by omega)
      obtain ⟨v3, hc3⟩ := hrow1.old (i := j * 4 + 3) (by omega)
      have f0 := hrow1.frozen (j * 4)
      have f1 := hrow1.frozen (j * 4 + 1)
      have f2 := hrow1.frozen (j * 4 + 2)
      have f3 := hrow1.frozen (j * 4 + 3)
      have hst := hrow1.step (Nat.le_antisymm hd1 hd2) hlt d
      have Hde := Lib.hid hde
      clear hde
      simp only [D.val]
      go_wp2_with fail
      refine ⟨⟨j + 1, by omega, by go_num, ds ++ [d], ?_, by simp; omega, by simp; omega, hst, ?_, ?_⟩, by simp [intOf]; omega⟩
      · show _ = _
        rw [List.take_succ_eq_append_getElem hlt, D.erL_append, D.erL_append, HE.out]
        simp [D.erL, Hde.out]
      · have h1 : D.OwnL (w.heap.size + 1) w1.heap.size w1 (ds ++ [d]) := hown.snoc hb1 hod hb1.size (by omega)
        simp only [World.size_setCell]
        exact (((h1.far (by simp) _).far (by simp) _).far (by simp) _).far (by simp) _
      · exact ((((hb.trans (hb1.mono (by omega))).setCell (by simp) _).setCell (by simp) _).setCell (by simp) _).setCell (by simp) _
    · have hj' : j = l.length := by omega
      go_wp2_with fail
      go_ret
      have hj'' : ds.length = l.length := by omega
      subst hj'
      obtain ⟨cs, hB1, hcs, hcells⟩ := hrow
      have HE' := HE.out
      rw [List.take_length] at HE'
      refine ⟨0, 0, ⟨#[]⟩, some ⟨w.heap.size, 0, none⟩, l.length, ds, ret_sl hj''.symm, HE', ?_, hb⟩
      exact D.Own.of_row (hown.wide (by omega) (Nat.le_refl _)) ⟨by omega, by unfold maxLen; omega, Nat.zero_le _⟩ (fun hm => by have := hown.lo_ _ hm; omega) (Nat.le_refl _) hB1.lt (fun o => hB1.frozen o) (fun j u hu => by rw [hB1.cell]; exact hcells j u hu)
set_option maxHeartbeats 400000 in
theorem cp_any : ∀ m, CpOk m := by
  intro m
  induction m with
  | zero => intro d B w h; have := d.size_pos; omega
  | succ m ih =>
    intro d B w hm hm2 hin hB
    obtain ⟨k, n, t, A, c, l⟩ := d
    have hL := cpL_step m ih
    have hcap := hin.cap
    simp only [D.l, D.c, D.t] at hcap
    simp only [D.val, D.k, D.n, D.t, D.A, D.l, D.c]
    have hmm : D.sizeL l ≤ m := by simp only [D.size] at hm; omega
    go_enter Tryz.func177, Tryz.ntmps177
    go_wp2_with fail
    refine (hL k n t A c l B _ hmm (by omega) ((hin.alloc hB _).alloc (by simp; omega) _) (by simp; omega)).mono ?_
    rintro e w1 ⟨k', n', t', A', c', l', rfl, hde, hod, hb1⟩
    obtain ⟨hc, hf⟩ := bcell hb1
    have hz := hb1.size
    have x0 := ((D.Box.new w (.mk k n t A c l) 32).below ((Below.refl (w.heap.size + 1) _).alloc (by simp) (.cells #[.int .i64 0, .int .i64 0, .string ⟨#[]⟩, .slice none 0 0] 32)) (by omega)).below hb1 (by simp <;> omega)
    obtain ⟨g0, g1, g2, g3⟩ := x0
    simp only [D.k, D.n, D.t, D.A, D.l, D.c] at g0 g1 g2 g3
    simp only [World.size_alloc] at hc hf hz hod
    have Hde := Lib.hid hde
    clear hde
    go_wp2_with fail
    refine bodyPost_ret (v := .agg #[.int .i64 k, .int .i64 n, .string t, .slice A' l'.length c']) (by simp [results, Tryz.results177, go_sem, hc, hz]) rfl ⟨.mk k n t A' c' l', rfl, ?_, ?_, ?_⟩
    · simp only [D.er, Hde.out]
    · have h1 := (hod.head (k' := k) (n' := n) (t' := t) hcap.2.2)
      simp only [World.size_setCell]
      exact (((((h1.far (by simp <;> omega) _).far (by simp) _).far (by simp) _).far (by simp) _).far (by simp) _).wide (by omega) (Nat.le_refl _)
    · have h0 : Below w.heap.size w w1 := (((Below.refl _ _).alloc (Nat.le_refl _) _).alloc (by simp) _).trans (hb1.mono (by simp; omega))
      exact ((((h0.setCell (by simp) _).setCell (by simp) _).setCell (by simp) _).setCell (by simp) _).setCell (by simp) _
end Go.Proofs.YtpigpncbjckbcaaGreat
namespace Go.Proofs.YtpigpncbjckbcaaGreat
open Go.RowKit
structure GrowL (base : Nat) (w : World) (v : Value) (ds : List D) : Prop where
  row : w.ownsRow base 32 4 v ds.length (D.cellsL ds)
  own : D.OwnL base w.heap.size w ds
  apart : ∀ g, v.ownBlock = some g → g ∉ D.blksL ds
theorem grownBy_of_below {w w' : World} (h : Below w.heap.size w w') (row : Option Nat) : w.grownBy w' row := ⟨h.os, h.tape, h.output, h.size, fun k hk _ => h.block k hk⟩
theorem GrowL.below {base : Nat} {w w' : World} {v : Value} {ds : List D} (h : GrowL base w v ds) (hb : Below w.heap.size w w') : GrowL base w' v ds :=
  ⟨h.row.kept (grownBy_of_below hb none) (by cases v.ownBlock <;> simp), (h.own.below hb).wide (Nat.le_refl _) hb.size, h.apart⟩
theorem cells_one (d : D) : ∀ u ∈ d.cells, u.oneCell' = true := by
  intro u hu
  simp [D.cells] at hu
  rcases hu with rfl | rfl | rfl | rfl <;> rfl
theorem GrowL.snoc {base lo g cap : Nat} {w w1 w3 : World} {v : Value} {ds : List D} {d : D} {o : Obj} (h : GrowL base w v ds) (hbase : base ≤ w.heap.size) (hlo : lo = w.heap.size + 1) (hd : d.Own lo w1.heap.size w1) (hb : Below w.heap.size w w1)
    (hown : w3.ownsRow base 32 4 (.slice (some ⟨g, 0, none⟩) (ds.length + 1) cap) (ds.length + 1) (D.cellsL ds ++ d.cells)) (hgr : (w1.alloc o).grownBy w3 v.ownBlock) (hat : v.ownBlock = some g ∨ g = w1.heap.size + 1) (_hlt : g < w3.heap.size) :
    GrowL base w3 (.slice (some ⟨g, 0, none⟩) (ds ++ [d]).length cap) (ds ++ [d]) := by
  have hsz1 := hb.size
  have hsz3 := hgr.size
  simp only [World.size_alloc] at hsz3
  have hrow : ∀ q, v.ownBlock = some q → q < w.heap.size := fun q hq => (h.row.lt q hq).2
  have hc : D.OwnL base w1.heap.size w1 (ds ++ [d]) := h.own.snoc hb (hd.wide (by omega) (Nat.le_refl _)) hsz1 hbase
  have hne : ∀ q, q ∈ D.blksL (ds ++ [d]) → some q ≠ v.ownBlock := by
    intro q hq e
    simp only [D.blksL_append, D.blksL, List.append_nil, List.mem_append] at hq
    rcases hq with hq | hq
    · exact h.apart q e.symm hq
    · have h1 := hd.lo_ q hq
      have h2 := hrow q e.symm
      omega
  refine ⟨?_, ?_, ?_⟩
  · have e1 : (ds ++ [d]).length = ds.length + 1 := by simp
    have e2 : D.cellsL (ds ++ [d]) = D.cellsL ds ++ d.cells := by simp [D.cellsL]
    rw [e1, e2]
    exact hown
  · refine (hc.keepB fun q hq => ?_).wide (Nat.le_refl _) (by omega)
    have hlt1 := hc.inn.blk_lt q hq
    rw [hgr.block q (by simp; omega) (hne q hq)]
    exact Below.heap_alloc _ _ _ hlt1
  · intro q hq hm
    have hqg : q = g := by simpa [Value.ownBlock] using hq.symm
    subst hqg
    rcases hat with hat | hat
    · exact hne q hm hat.symm
    · have := hc.inn.blk_lt q hm
      omega
theorem GrowL.far {base : Nat} {w : World} {v : Value} {ds : List D} (h : GrowL base w v ds) {p : Addr} (hp : p.block < base) (u : Value) : GrowL base (w.setCell p u) v ds :=
  ⟨ownsRow_setCell_below h.row hp u, by simp only [World.size_setCell]; exact h.own.far hp u, h.apart⟩
theorem app_round {B out g cap : Nat} {w wr w1 w3 : World} {v u : Value} {ds : List D} {d : D} {ox o : Obj} (hG : GrowL (out + 1) wr v ds) (hout : out + 1 ≤ wr.heap.size) (hBo : B ≤ out) (hb : Below B w wr)
    (hod : d.Own (wr.heap.size + 1) w1.heap.size w1) (hb1 : Below (wr.heap.size + 1) (wr.alloc ox) w1)
    (hown : w3.ownsRow (out + 1) 32 4 (.slice (some ⟨g, 0, none⟩) (ds.length + 1) cap) (ds.length + 1) (D.cellsL ds ++ d.cells)) (hgr : (w1.alloc o).grownBy w3 v.ownBlock) (hat : v.ownBlock = some g ∨ g = w1.heap.size + 1) (hlt : g < w3.heap.size)
    (hc3 : wr.cell? ⟨out, 3, none⟩ = some u) :
    GrowL (out + 1) (w3.setCell ⟨out, 3, none⟩ (.slice (some ⟨g, 0, none⟩) (ds.length + 1) cap)) (.slice (some ⟨g, 0, none⟩) (ds.length + 1) cap) (ds ++ [d]) ∧
    (∀ q, q ≠ 3 → (w3.setCell ⟨out, 3, none⟩ (.slice (some ⟨g, 0, none⟩) (ds.length + 1) cap)).cell? ⟨out, q, none⟩ = wr.cell? ⟨out, q, none⟩) ∧
    (w3.setCell ⟨out, 3, none⟩ (.slice (some ⟨g, 0, none⟩) (ds.length + 1) cap)).cell? ⟨out, 3, none⟩ = some (.slice (some ⟨g, 0, none⟩) (ds.length + 1) cap) ∧
    (∀ q, (w3.setCell ⟨out, 3, none⟩ (.slice (some ⟨g, 0, none⟩) (ds.length + 1) cap)).frozen? ⟨out, q, none⟩ = wr.frozen? ⟨out, q, none⟩) ∧
    wr.heap.size ≤ (w3.setCell ⟨out, 3, none⟩ (.slice (some ⟨g, 0, none⟩) (ds.length + 1) cap)).heap.size ∧ Below B w (w3.setCell ⟨out, 3, none⟩ (.slice (some ⟨g, 0, none⟩) (ds.length + 1) cap)) := by
  have hbw : Below wr.heap.size wr w1 := ((Below.refl _ _).alloc (Nat.le_refl _) ox).trans (hb1.mono (by omega))
  have hz1 := hbw.size
  have hz3 := hgr.size
  simp only [World.size_alloc] at hz3
  have hne : ∀ q, v.ownBlock = some q → out + 1 ≤ q := fun q hq => (hG.row.lt q hq).1
  have hno : some out ≠ v.ownBlock := fun e => by have := hne out e.symm; omega
  have hh : w3.heap[out]? = wr.heap[out]? := by
    rw [hgr.block out (by simp; omega) hno]
    exact (Below.heap_alloc _ _ _ (by omega)).trans (hbw.block out (by omega))
  have cf : ∀ q, w3.cell? ⟨out, q, none⟩ = wr.cell? ⟨out, q, none⟩ := fun q => World.cell?_of_block (a := ⟨out, q, none⟩) hh
  have ff : ∀ q, w3.frozen? ⟨out, q, none⟩ = wr.frozen? ⟨out, q, none⟩ := fun q => World.frozen?_of_block (a := ⟨out, q, none⟩) hh
  have hG3 := hG.snoc (by omega) rfl hod hbw hown hgr hat hlt
  have e1 : (ds ++ [d]).length = ds.length + 1 := by simp
  rw [e1] at hG3
  have hb3 : Below B w w3 := ((hb.trans (hbw.mono (by omega))).alloc (by omega) o).grown hgr (by simp; omega) (fun k hk => by have := hne k hk; omega)
  refine ⟨hG3.far (by simp) _, fun q hq => ?_, ?_, fun q => ?_, by simp; omega, hb3.setCell (by simpa using hBo) _⟩
  · rw [D.cell_set_ne _ _ _ _ _ hq]; exact cf q
  · exact D.cell_set_eq ((cf 3).trans hc3)
  · rw [World.frozen?_setCell]; exact ff q
def L1Ok (m : Nat) : Prop := ∀ (d : D) (B : Nat) (w : World), d.size ≤ m → m ≤ 2000000 → d.In w B → B ≤ w.heap.size → Calls Tryz.prog 98 #[d.val] w (RetD d.er w)
set_option maxRecDepth 100000 in
set_option maxHeartbeats 2000000 in
theorem l1Copy_any : ∀ m, L1Ok m := by
  intro m
  induction m with
  | zero => intro d B w h; have := d.size_pos; omega
  | succ m ih =>
  intro d B w hm hm2 hin hB
  obtain ⟨k, n, t, A, c, l⟩ := d
  have hcap := hin.cap
  simp only [D.l, D.c, D.t] at hcap
  simp only [D.val, D.k, D.n, D.t, D.A, D.l, D.c]
  have hmm : D.sizeL l ≤ m := by simp only [D.size] at hm; omega
  have hll := D.length_le_sizeL l
  obtain ⟨i0, hi0, hz0, hz1, hz2⟩ := info_parts infoD
  clear hm
  go_enter Tryz.func98, Tryz.ntmps98
  go_wp2_with fail
  go_loopw [16] (fun i wr => ∃ j : Nat, j ≤ l.length ∧ i = .int .i64 j ∧ ∃ (v : Value) (ds : List D), Hid (D.erL ds = D.erL (l.take j)) ∧ ds.length ≤ j ∧ j ≤ ds.length ∧ GrowL (w.heap.size + 1 + 1 + 1) wr v ds ∧
      wr.cell? ⟨w.heap.size + 1 + 1, 0, none⟩ = some (.int .i64 k) ∧ wr.cell? ⟨w.heap.size + 1 + 1, 1, none⟩ = some (.int .i64 n) ∧ wr.cell? ⟨w.heap.size + 1 + 1, 2, none⟩ = some (.string t) ∧ wr.cell? ⟨w.heap.size + 1 + 1, 3, none⟩ = some v ∧
      wr.frozen? ⟨w.heap.size + 1 + 1, 3, none⟩ = false ∧ w.heap.size + 1 + 1 + 1 ≤ wr.heap.size ∧ Below (w.heap.size + 1 + 1) ((w.alloc (.cells #[.int .i64 k, .int .i64 n, .string t, .slice A l.length c] 32)).alloc (.cells #[.int .i64 0, .int .i64 0, .string ⟨#[]⟩, .slice none 0 0] 32)) wr) (fun i _ => l.length - (intOf i).toNat)
  case atStart =>
    have y := D.Box.new ((w.alloc (.cells #[.int .i64 k, .int .i64 n, .string t, .slice A l.length c] 32)).alloc (.cells #[.int .i64 0, .int .i64 0, .string ⟨#[]⟩, .slice none 0 0] 32)) (.mk k n t none 0 []) 32
    have yf := (D.Blk.new ((w.alloc (.cells #[.int .i64 k, .int .i64 n, .string t, .slice A l.length c] 32)).alloc (.cells #[.int .i64 0, .int .i64 0, .string ⟨#[]⟩, .slice none 0 0] 32)) 32 #[.int .i64 k, .int .i64 n, .string t, .slice none 0 0]).frozen 3
    simp only [World.size_alloc] at y yf
    obtain ⟨y0, y1, y2, y3⟩ := y
    exact ⟨0, Nat.zero_le _, rfl, .slice none 0 0, [], by simp [D.erL, Hid], Nat.le_refl _, Nat.le_refl _, ⟨World.ownsRow_nil _ _ _ _, D.OwnL.nil_, by simp [Value.ownBlock]⟩, y0, y1, y2, y3, yf, by simp, (Below.refl _ _).alloc (by simp) _⟩
  case round =>
    obtain ⟨j, hj, rfl, v, ds, HE, hd1, hd2, hG, u0, u1, u2, u3, uf, hz, hbq⟩ := hrel
    have hb : Below w.heap.size w wr := (((Below.refl _ _).alloc (Nat.le_refl _) _).alloc (by simp) _).trans (hbq.mono (by omega))
    have hs2 := hb.size
    have HQ := Lib.hid hbq
    clear hbq
    by_cases hlt : j < l.length
    · obtain ⟨b, o, rfl, hblk, c0, c1, c2, c3, hix⟩ := (hin.below (hb.mono hB)).at_ (i := j) (x := l[j]) (List.getElem?_eq_getElem hlt)
      have hsz := D.sizeL_mem (l := l) (List.getElem_mem hlt)
      have x0 := D.Box.new wr l[j] 32
      obtain ⟨g0, g1, g2, g3⟩ := x0
      have al : (wr.alloc (.cells #[.int .i64 l[j].k, .int .i64 l[j].n, .string l[j].t, .slice l[j].A l[j].l.length l[j].c] 32)).cell? ⟨w.heap.size + 1 + 1, 3, none⟩ = some v := (World.cell?_alloc_lt wr _ _ (show w.heap.size + 1 + 1 < wr.heap.size by omega)).trans u3
      have ne1 : w.heap.size + 1 + 1 < wr.heap.size := by omega
      have hGa := hG.below ((Below.refl _ _).alloc (Nat.le_refl _) (.cells #[.int .i64 l[j].k, .int .i64 l[j].n, .string l[j].t, .slice l[j].A l[j].l.length l[j].c] 32))
      have hlen1 : ds.length ≤ 2000000 := by omega
      have hcol := D.cellsL_length ds
      go_wp2_with fail
      have hne1 : some (w.heap.size + 1 + 1) ≠ v.ownBlock := fun e => by have := hG.row.lt _ e.symm; omega
      have hne2 : some wr.heap.size ≠ v.ownBlock := fun e => by have := hG.row.lt _ e.symm; omega
      go_region_law
        (first
          | (go_simp; go_at_call 98; refine (ih l[j] B _ ?_ ?_ ?_ ?_).mono ?_; omega; omega; exact (hix.alloc (by omega) _).drew; (show B ≤ (wr.alloc _).heap.size); (simp; omega); rintro e w1 ⟨d, rfl, hde, hod, hb1⟩; unfold D.val; have hb1 := below_undrew hb1; have Hde := Lib.hid hde; clear hde; have hlt1 : wr.heap.size < (wr.alloc (.cells #[.int .i64 l[j].k, .int .i64 l[j].n, .string l[j].t, .slice l[j].A l[j].l.length l[j].c] 32)).heap.size := (by simp); have x0 := (hb1.cell (p := ⟨wr.heap.size, 0, none⟩) hlt1).trans g0; have x1 := (hb1.cell (p := ⟨wr.heap.size, 1, none⟩) hlt1).trans g1; have x2 := (hb1.cell (p := ⟨wr.heap.size, 2, none⟩) hlt1).trans g2; have x3 := (hb1.cell (p := ⟨wr.heap.size, 3, none⟩) hlt1).trans g3; have x4 := (hb1.cell (p := ⟨w.heap.size + 1 + 1, 3, none⟩) (by simp; omega)).trans al; have hG1 := hGa.below hb1; have hzz := hb1.size; have ne4 : w.heap.size + 1 + 1 < w1.heap.size := (by simp at hzz; omega); have xf := (hb1.frozen (p := ⟨w.heap.size + 1 + 1, 3, none⟩) (by simp; omega)).trans ((World.frozen?_alloc_old wr _ ⟨w.heap.size + 1 + 1, 3, none⟩ (by simp; omega)).trans uf))
          | ((refine step_append_lies _ (by rfl) _ _ _ (by rfl) (w.heap.size + 1 + 1 + 1) 32 i0 _ 4 56 Tryz.underlying30 hi0 hz0 hz1 hz2 rfl (by omega) v ds.length (D.cellsL ds) (by rfl) ?_ ⟨w1.heap.size, 0, none⟩ 1 1 d.cells (by rfl) (by rfl) ?_ (cells_one d) (by omega) ?_ ?_ ?_ (w1.heap.size + 1) ?_ ?_); exact (hG1.row.alloc _); exact (show ∀ q u, (#[Value.int .i64 d.k, .int .i64 d.n, .string d.t, .slice d.A d.l.length d.c].toList)[q]? = some u → _ from World.news_of_block (heap_alloc_new _ _)); (unfold maxLen; omega); omega; (simp at hzz ⊢; omega); simp; intro g cap w3 hown3 hgr hat hlt3; have y4 := (hgr.cell_far ⟨w.heap.size + 1 + 1, 3, none⟩ (by simp at hzz ⊢; omega) hne1).trans ((World.cell?_alloc_lt w1 _ ⟨w.heap.size + 1 + 1, 3, none⟩ (by simp at hzz ⊢; omega)).trans x4); have y0 := (hgr.cell_far ⟨wr.heap.size, 0, none⟩ (by simp at hzz ⊢; omega) hne2).trans ((World.cell?_alloc_lt w1 _ ⟨wr.heap.size, 0, none⟩ (by simp at hzz ⊢; omega)).trans x0); have y1 := (hgr.cell_far ⟨wr.heap.size, 1, none⟩ (by simp at hzz ⊢; omega) hne2).trans ((World.cell?_alloc_lt w1 _ ⟨wr.heap.size, 1, none⟩ (by simp at hzz ⊢; omega)).trans x1); have y2 := (hgr.cell_far ⟨wr.heap.size, 2, none⟩ (by simp at hzz ⊢; omega) hne2).trans ((World.cell?_alloc_lt w1 _ ⟨wr.heap.size, 2, none⟩ (by simp at hzz ⊢; omega)).trans x2); have y3 := (hgr.cell_far ⟨wr.heap.size, 3, none⟩ (by simp at hzz ⊢; omega) hne2).trans ((World.cell?_alloc_lt w1 _ ⟨wr.heap.size, 3, none⟩ (by simp at hzz ⊢; omega)).trans x3); have yf := (hgr.frozen_far ⟨w.heap.size + 1 + 1, 3, none⟩ (by simp at hzz ⊢; omega) hne1).trans ((World.frozen?_alloc_old w1 _ ⟨w.heap.size + 1 + 1, 3, none⟩ (by simp at hzz ⊢; omega)).trans xf)))
      all_goals
        have hR := app_round (out := w.heap.size + 1 + 1) hG hz (Nat.le_refl _) HQ.out (by simpa using hod) (by simpa using hb1) hown3 hgr hat hlt3 u3
        have HR := Lib.hid hR
        clear hR hb1 hgr hown3 hG1 hGa
        go_wp2_with fail
        obtain ⟨r1, r2, r3, r4, r5, r6⟩ := HR.out
        refine ⟨⟨j + 1, by omega, by go_num, .slice (some ⟨g, 0, none⟩) (ds.length + 1) cap, ds ++ [d], ?_, by simp; omega, by simp; omega, r1, (r2 0 (by omega)).trans u0, (r2 1 (by omega)).trans u1, (r2 2 (by omega)).trans u2, r3, (r4 3).trans uf, by omega, r6⟩, by simp [intOf]; omega⟩
        show _ = _
        rw [List.take_succ_eq_append_getElem hlt, D.erL_append, D.erL_append, HE.out]
        simp [D.erL, Hde.out]
    · have e1 : l.take j = l := List.take_of_length_le (by omega)
      have he := HE.out
      rw [e1] at he
      have He := Lib.hid he
      clear e1 he
      have zr := (D.Box.new (w.alloc (.cells #[.int .i64 k, .int .i64 n, .string t, .slice A l.length c] 32)) (.mk 0 0 ⟨#[]⟩ none 0 []) 32)
      have zf := (D.Blk.new (w.alloc (.cells #[.int .i64 k, .int .i64 n, .string t, .slice A l.length c] 32)) 32 #[.int .i64 0, .int .i64 0, .string ⟨#[]⟩, .slice none 0 0])
      simp only [World.size_alloc] at zr zf
      obtain ⟨z0, z1, z2, z3⟩ := zr.below HQ.out (by omega)
      have zf := zf.below HQ.out (by omega)
      have zf0 := zf.frozen 0
      have zf1 := zf.frozen 1
      have zf2 := zf.frozen 2
      have zf3 := zf.frozen 3
      simp only [D.k, D.n, D.t, D.A, D.l, D.c] at z0 z1 z2 z3
      have hG0 := hG
      obtain ⟨hrow, hown, hap⟩ := hG
      rcases hrow with ⟨hr1, ⟨rfl, hr2⟩ | ⟨g, cap, cur, rfl, hr2, hr3, hr4, hr5, hr6, hr7⟩⟩
      · have hds : ds = [] := List.eq_nil_of_length_eq_zero hr2
        subst hds
        go_wp2_with fail
        refine bodyPost_ret (v := .agg #[.int .i64 k, .int .i64 n, .string t, .slice none 0 0]) (by simp [results, Tryz.results98, go_sem, z0, z1, z2, z3]) rfl ⟨.mk k n t none 0 [], rfl, ?_, ?_, ?_⟩
        · simp only [D.er]; rw [← He.out]
        · exact D.Own.no_items (Nat.zero_le _) hcap.2.2
        · exact (((hb.setCell (by simp) _).setCell (by simp) _).setCell (by simp) _).setCell (by simp) _
      · have hcells := hG0.row.cells (g := g) rfl
        have hblk : D.Blk wr g 32 cur := hr3
        have hglt := hblk.lt
        go_wp2_with fail
        refine bodyPost_ret (v := .agg #[.int .i64 k, .int .i64 n, .string t, .slice (some ⟨g, 0, none⟩) ds.length cap]) (by simp [results, Tryz.results98, go_sem, z0, z1, z2, z3]) rfl ⟨.mk k n t (some ⟨g, 0, none⟩) cap ds, rfl, ?_, ?_, ?_⟩
        · simp only [D.er, He.out]
        · have h1 : (D.mk k n t (some ⟨g, 0, none⟩) cap ds).Own (w.heap.size + 1 + 1 + 1) wr.heap.size wr := D.Own.of_row hown ⟨hr4, hr5, hcap.2.2⟩ (hap g rfl) hr2 hglt (fun o => hblk.frozen o) (fun j u hu => by
            have := hcells j u hu
            have e : (⟨g, 0, none⟩ : Addr).add j = ⟨g, j, none⟩ := by unfold Addr.add; split <;> simp_all
            rwa [e] at this)
          simp only [World.size_setCell]
          exact ((((h1.far (by simp <;> omega) _).far (by simp <;> omega) _).far (by simp <;> omega) _).far (by simp <;> omega) _).wide (by omega) (Nat.le_refl _)
        · exact (((hb.setCell (by simp) _).setCell (by simp) _).setCell (by simp) _).setCell (by simp) _
end Go.Proofs.YtpigpncbjckbcaaGreat
