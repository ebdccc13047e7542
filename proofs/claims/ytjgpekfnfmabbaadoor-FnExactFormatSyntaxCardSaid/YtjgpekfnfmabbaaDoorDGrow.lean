/-
  Rows of data that grow by append; the model's l2Datum.
-/
import Derived.Test.YtjgpekfnfmabbaaDoorSDaO
import Derived.Deep.AppendLies
import Derived.Deep.RegionHeld3
import Derived.Deep.RegionLaw
namespace Go.Proofs.YtjgpekfnfmabbaaDoor
open Go.RowKit

/-- The call's own list ds behind the slice value v: the row may still grow. -/
structure GrowL (base : Nat) (w : World) (v : Value) (ds : List D) : Prop where
  row : w.ownsRow base 29 4 v ds.length (D.cellsL ds)
  own : D.OwnL base w.heap.size w ds
  apart : ∀ g, v.ownBlock = some g → g ∉ D.blksL ds

theorem grownBy_of_below {w w' : World} (h : Below w.heap.size w w') (row : Option Nat) : w.grownBy w' row := ⟨h.os, h.tape, h.output, h.size, fun k hk _ => h.block k hk⟩
theorem GrowL.below {base : Nat} {w w' : World} {v : Value} {ds : List D} (h : GrowL base w v ds) (hb : Below w.heap.size w w') : GrowL base w' v ds :=
  ⟨h.row.kept (grownBy_of_below hb none) (by cases v.ownBlock <;> simp), (h.own.below hb).wide (Nat.le_refl _) hb.size, h.apart⟩
theorem cells_one (d : D) : ∀ u ∈ d.cells, u.oneCell' = true := by
  intro u hu
  simp [D.cells] at hu
  rcases hu with rfl | rfl | rfl | rfl <;> rfl
/-- What an append of one datum leaves. -/
theorem GrowL.snoc {base lo g cap : Nat} {w w1 w3 : World} {v : Value} {ds : List D} {d : D} {o : Obj} (h : GrowL base w v ds) (hbase : base ≤ w.heap.size) (hlo : lo = w.heap.size + 1) (hd : d.Own lo w1.heap.size w1) (hb : Below w.heap.size w w1)
    (hown : w3.ownsRow base 29 4 (.slice (some ⟨g, 0, none⟩) (ds.length + 1) cap) (ds.length + 1) (D.cellsL ds ++ d.cells)) (hgr : (w1.alloc o).grownBy w3 v.ownBlock) (hat : v.ownBlock = some g ∨ g = w1.heap.size + 1) (_hlt : g < w3.heap.size) :
    GrowL base w3 (.slice (some ⟨g, 0, none⟩) (ds ++ [d]).length cap) (ds ++ [d]) := by
  have hsz1 := hb.size
  have hsz3 := hgr.size
  simp only [World.size_alloc] at hsz3
  have hrow : ∀ q, v.ownBlock = some q → q < w.heap.size := fun q hq => (h.row.lt q hq).2
  have hc : D.OwnL base w1.heap.size w1 (ds ++ [d]) := h.own.snoc hb (hd.wide (by omega) (Nat.le_refl _)) hsz1 hbase
  have hne : ∀ q, q ∈ D.blksL (ds ++ [d]) → some q ≠ v.ownBlock := by
    intro q hq e
    simp only [D.blksL_append, D.blksL, List.append_nil, List.mem_append] at hq
    rcases hq with hq | hq
    · exact h.apart q e.symm hq
    · have h1 := hd.lo_ q hq
      have h2 := hrow q e.symm
      omega
  refine ⟨?_, ?_, ?_⟩
  · have e1 : (ds ++ [d]).length = ds.length + 1 := by simp
    have e2 : D.cellsL (ds ++ [d]) = D.cellsL ds ++ d.cells := by simp [D.cellsL]
    rw [e1, e2]
    exact hown
  · refine (hc.keepB fun q hq => ?_).wide (Nat.le_refl _) (by omega)
    have hlt1 := hc.inn.blk_lt q hq
    rw [hgr.block q (by simp; omega) (hne q hq)]
    exact Below.heap_alloc _ _ _ hlt1
  · intro q hq hm
    have hqg : q = g := by simpa [Value.ownBlock] using hq.symm
    subst hqg
    rcases hat with hat | hat
    · exact hne q hm hat.symm
    · have := hc.inn.blk_lt q hm
      omega

theorem GrowL.far {base : Nat} {w : World} {v : Value} {ds : List D} (h : GrowL base w v ds) {p : Addr} (hp : p.block < base) (u : Value) : GrowL base (w.setCell p u) v ds :=
  ⟨ownsRow_setCell_below h.row hp u, by simp only [World.size_setCell]; exact h.own.far hp u, h.apart⟩
/-- A round of 'out.Items = append(out.Items, ..)', out's block just below base. -/
theorem app_round {B out g cap : Nat} {w wr w1 w3 : World} {v u : Value} {ds : List D} {d : D} {ox o : Obj} (hG : GrowL (out + 1) wr v ds) (hout : out + 1 ≤ wr.heap.size) (hBo : B ≤ out) (hb : Below B w wr)
    (hod : d.Own (wr.heap.size + 1) w1.heap.size w1) (hb1 : Below (wr.heap.size + 1) (wr.alloc ox) w1)
    (hown : w3.ownsRow (out + 1) 29 4 (.slice (some ⟨g, 0, none⟩) (ds.length + 1) cap) (ds.length + 1) (D.cellsL ds ++ d.cells)) (hgr : (w1.alloc o).grownBy w3 v.ownBlock) (hat : v.ownBlock = some g ∨ g = w1.heap.size + 1) (hlt : g < w3.heap.size)
    (hc3 : wr.cell? ⟨out, 3, none⟩ = some u) :
    GrowL (out + 1) (w3.setCell ⟨out, 3, none⟩ (.slice (some ⟨g, 0, none⟩) (ds.length + 1) cap)) (.slice (some ⟨g, 0, none⟩) (ds.length + 1) cap) (ds ++ [d]) ∧
    (∀ q, q ≠ 3 → (w3.setCell ⟨out, 3, none⟩ (.slice (some ⟨g, 0, none⟩) (ds.length + 1) cap)).cell? ⟨out, q, none⟩ = wr.cell? ⟨out, q, none⟩) ∧
    (w3.setCell ⟨out, 3, none⟩ (.slice (some ⟨g, 0, none⟩) (ds.length + 1) cap)).cell? ⟨out, 3, none⟩ = some (.slice (some ⟨g, 0, none⟩) (ds.length + 1) cap) ∧
    (∀ q, (w3.setCell ⟨out, 3, none⟩ (.slice (some ⟨g, 0, none⟩) (ds.length + 1) cap)).frozen? ⟨out, q, none⟩ = wr.frozen? ⟨out, q, none⟩) ∧
    wr.heap.size ≤ (w3.setCell ⟨out, 3, none⟩ (.slice (some ⟨g, 0, none⟩) (ds.length + 1) cap)).heap.size ∧ Below B w (w3.setCell ⟨out, 3, none⟩ (.slice (some ⟨g, 0, none⟩) (ds.length + 1) cap)) := by
  have hbw : Below wr.heap.size wr w1 := ((Below.refl _ _).alloc (Nat.le_refl _) ox).trans (hb1.mono (by omega))
  have hz1 := hbw.size
  have hz3 := hgr.size
  simp only [World.size_alloc] at hz3
  have hne : ∀ q, v.ownBlock = some q → out + 1 ≤ q := fun q hq => (hG.row.lt q hq).1
  have hno : some out ≠ v.ownBlock := fun e => by have := hne out e.symm; omega
  have hh : w3.heap[out]? = wr.heap[out]? := by
    rw [hgr.block out (by simp; omega) hno]
    exact (Below.heap_alloc _ _ _ (by omega)).trans (hbw.block out (by omega))
  have cf : ∀ q, w3.cell? ⟨out, q, none⟩ = wr.cell? ⟨out, q, none⟩ := fun q => World.cell?_of_block (a := ⟨out, q, none⟩) hh
  have ff : ∀ q, w3.frozen? ⟨out, q, none⟩ = wr.frozen? ⟨out, q, none⟩ := fun q => World.frozen?_of_block (a := ⟨out, q, none⟩) hh
  have hG3 := hG.snoc (by omega) rfl hod hbw hown hgr hat hlt
  have e1 : (ds ++ [d]).length = ds.length + 1 := by simp
  rw [e1] at hG3
  have hb3 : Below B w w3 := ((hb.trans (hbw.mono (by omega))).alloc (by omega) o).grown hgr (by simp; omega) (fun k hk => by have := hne k hk; omega)
  refine ⟨hG3.far (by simp) _, fun q hq => ?_, ?_, fun q => ?_, by simp; omega, hb3.setCell (by simpa using hBo) _⟩
  · rw [icell_ne _ _ _ _ _ hq]; exact cf q
  · exact icell_eq ((cf 3).trans hc3)
  · rw [World.frozen?_setCell]; exact ff q

def L2DOk (m : Nat) : Prop := ∀ (d : S) (B : Nat) (w : World), d.size ≤ m → m ≤ 2000000 → d.In w B → B ≤ w.heap.size → Calls Tryd.prog 60 #[d.val] w (RetD (datD d) w)

set_option maxRecDepth 100000 in
set_option maxHeartbeats 2000000 in
theorem specDat_any : ∀ m, L2DOk m := by
  intro m
  induction m with
  | zero => intro d B w h; have := d.size_pos; omega
  | succ m ih =>
  intro d B w hm hm2 hin hB
  obtain ⟨k, n, t, sa, sc, s, A, c, l⟩ := d
  have hcap := hin.cap
  simp only [S.l, S.c, S.t] at hcap
  simp only [S.val, S.k, S.n, S.t, S.sa, S.sc, S.s, S.A, S.l, S.c]
  have hmm : S.sizeL l ≤ m := by simp only [S.size] at hm; omega
  have hll := S.length_le_sizeL l
  obtain ⟨i0, hi0, hz0, hz1, hz2⟩ := info_parts infoD
  clear hm
  go_enter Tryd.func60, Tryd.ntmps60
  go_wp2_with fail
  go_loopw [16] (fun i wr => ∃ j : Nat, j ≤ l.length ∧ i = .int .i64 j ∧ ∃ (v : Value) (ds : List D), Hid (D.erL ds = datL (l.take j)) ∧ ds.length ≤ j ∧ j ≤ ds.length ∧ GrowL (w.heap.size + 1 + 1 + 1) wr v ds ∧
      wr.cell? ⟨w.heap.size + 1 + 1, 0, none⟩ = some (.int .i64 k) ∧ wr.cell? ⟨w.heap.size + 1 + 1, 1, none⟩ = some (.int .i64 n) ∧ wr.cell? ⟨w.heap.size + 1 + 1, 2, none⟩ = some (.string t) ∧ wr.cell? ⟨w.heap.size + 1 + 1, 3, none⟩ = some v ∧
      wr.frozen? ⟨w.heap.size + 1 + 1, 3, none⟩ = false ∧ w.heap.size + 1 + 1 + 1 ≤ wr.heap.size ∧ Below (w.heap.size + 1 + 1) ((w.alloc (.cells #[.int .i64 k, .int .i64 n, .string t, .slice sa s.length sc, .slice A l.length c] 46)).alloc (.cells #[.int .i64 0, .int .i64 0, .string ⟨#[]⟩, .slice none 0 0] 29)) wr) (fun i _ => l.length - (intOf i).toNat)
  case atStart =>
    have y := D.Box.new ((w.alloc (.cells #[.int .i64 k, .int .i64 n, .string t, .slice sa s.length sc, .slice A l.length c] 46)).alloc (.cells #[.int .i64 0, .int .i64 0, .string ⟨#[]⟩, .slice none 0 0] 29)) (.mk k n t none 0 []) 29
    have yf := (D.Blk.new ((w.alloc (.cells #[.int .i64 k, .int .i64 n, .string t, .slice sa s.length sc, .slice A l.length c] 46)).alloc (.cells #[.int .i64 0, .int .i64 0, .string ⟨#[]⟩, .slice none 0 0] 29)) 29 #[.int .i64 k, .int .i64 n, .string t, .slice none 0 0]).frozen 3
    simp only [World.size_alloc] at y yf
    obtain ⟨y0, y1, y2, y3⟩ := y
    exact ⟨0, Nat.zero_le _, rfl, .slice none 0 0, [], by simp [D.erL, datL, Hid], Nat.le_refl _, Nat.le_refl _, ⟨World.ownsRow_nil _ _ _ _, D.OwnL.nil_, by simp [Value.ownBlock]⟩, y0, y1, y2, y3, yf, by simp, (Below.refl _ _).alloc (by simp) _⟩
  case round =>
    obtain ⟨j, hj, rfl, v, ds, HE, hd1, hd2, hG, u0, u1, u2, u3, uf, hz, hbq⟩ := hrel
    have hb : Below w.heap.size w wr := (((Below.refl _ _).alloc (Nat.le_refl _) _).alloc (by simp) _).trans (hbq.mono (by omega))
    have hs2 := hb.size
    have HQ := Lib.hid hbq
    clear hbq
    by_cases hlt : j < l.length
    · obtain ⟨b, o, rfl, hblk, c0, c1, c2, c3, c4, hix⟩ := (hin.below (hb.mono hB)).at_ (i := j) (x := l[j]) (List.getElem?_eq_getElem hlt)
      have hsz := S.sizeL_mem (l := l) (List.getElem_mem hlt)
      have x0 := S.Box.new wr l[j] 46
      obtain ⟨g0, g1, g2, g3, g4⟩ := x0
      have al : (wr.alloc (.cells #[.int .i64 l[j].k, .int .i64 l[j].n, .string l[j].t, .slice l[j].sa l[j].s.length l[j].sc, .slice l[j].A l[j].l.length l[j].c] 46)).cell? ⟨w.heap.size + 1 + 1, 3, none⟩ = some v := (World.cell?_alloc_lt wr _ _ (show w.heap.size + 1 + 1 < wr.heap.size by omega)).trans u3
      have ne1 : w.heap.size + 1 + 1 < wr.heap.size := by omega
      have hGa := hG.below ((Below.refl _ _).alloc (Nat.le_refl _) (.cells #[.int .i64 l[j].k, .int .i64 l[j].n, .string l[j].t, .slice l[j].sa l[j].s.length l[j].sc, .slice l[j].A l[j].l.length l[j].c] 46))
      have hlen1 : ds.length ≤ 2000000 := by omega
      have hcol := D.cellsL_length ds
      go_wp2_with fail
      have hne1 : some (w.heap.size + 1 + 1) ≠ v.ownBlock := fun e => by have := hG.row.lt _ e.symm; omega
      have hne2 : some wr.heap.size ≠ v.ownBlock := fun e => by have := hG.row.lt _ e.symm; omega
      go_region_law
        (first
          | (go_simp; go_at_call 60; refine (ih l[j] B _ ?_ ?_ ?_ ?_).mono ?_; omega; omega; exact (hix.alloc (by omega) _).drew; (show B ≤ (wr.alloc _).heap.size); (simp; omega); rintro e w1 ⟨d, rfl, hde, hod, hb1⟩; unfold D.val; have hb1 := below_undrew hb1; have Hde := Lib.hid hde; clear hde; have hlt1 : wr.heap.size < (wr.alloc (.cells #[.int .i64 l[j].k, .int .i64 l[j].n, .string l[j].t, .slice l[j].sa l[j].s.length l[j].sc, .slice l[j].A l[j].l.length l[j].c] 46)).heap.size := (by simp); have x0 := (hb1.cell (p := ⟨wr.heap.size, 0, none⟩) hlt1).trans g0; have x1 := (hb1.cell (p := ⟨wr.heap.size, 1, none⟩) hlt1).trans g1; have x2 := (hb1.cell (p := ⟨wr.heap.size, 2, none⟩) hlt1).trans g2; have x3 := (hb1.cell (p := ⟨wr.heap.size, 3, none⟩) hlt1).trans g3; have x5 := (hb1.cell (p := ⟨wr.heap.size, 4, none⟩) hlt1).trans g4; have x4 := (hb1.cell (p := ⟨w.heap.size + 1 + 1, 3, none⟩) (by simp; omega)).trans al; have hG1 := hGa.below hb1; have hzz := hb1.size; have ne4 : w.heap.size + 1 + 1 < w1.heap.size := (by simp at hzz; omega); have xf := (hb1.frozen (p := ⟨w.heap.size + 1 + 1, 3, none⟩) (by simp; omega)).trans ((World.frozen?_alloc_old wr _ ⟨w.heap.size + 1 + 1, 3, none⟩ (by simp; omega)).trans uf))
          | ((refine step_append_lies _ (by rfl) _ _ _ (by rfl) (w.heap.size + 1 + 1 + 1) 29 i0 _ 4 56 Tryd.underlying27 hi0 hz0 hz1 hz2 rfl (by omega) v ds.length (D.cellsL ds) (by rfl) ?_ ⟨w1.heap.size, 0, none⟩ 1 1 d.cells (by rfl) (by rfl) ?_ (cells_one d) (by omega) ?_ ?_ ?_ (w1.heap.size + 1) ?_ ?_); exact (hG1.row.alloc _); exact (show ∀ q u, (#[Value.int .i64 d.k, .int .i64 d.n, .string d.t, .slice d.A d.l.length d.c].toList)[q]? = some u → _ from World.news_of_block (heap_alloc_new _ _)); (unfold maxLen; omega); omega; (simp at hzz ⊢; omega); simp; intro g cap w3 hown3 hgr hat hlt3; have y4 := (hgr.cell_far ⟨w.heap.size + 1 + 1, 3, none⟩ (by simp at hzz ⊢; omega) hne1).trans ((World.cell?_alloc_lt w1 _ ⟨w.heap.size + 1 + 1, 3, none⟩ (by simp at hzz ⊢; omega)).trans x4); have y0 := (hgr.cell_far ⟨wr.heap.size, 0, none⟩ (by simp at hzz ⊢; omega) hne2).trans ((World.cell?_alloc_lt w1 _ ⟨wr.heap.size, 0, none⟩ (by simp at hzz ⊢; omega)).trans x0); have y1 := (hgr.cell_far ⟨wr.heap.size, 1, none⟩ (by simp at hzz ⊢; omega) hne2).trans ((World.cell?_alloc_lt w1 _ ⟨wr.heap.size, 1, none⟩ (by simp at hzz ⊢; omega)).trans x1); have y2 := (hgr.cell_far ⟨wr.heap.size, 2, none⟩ (by simp at hzz ⊢; omega) hne2).trans ((World.cell?_alloc_lt w1 _ ⟨wr.heap.size, 2, none⟩ (by simp at hzz ⊢; omega)).trans x2); have y3 := (hgr.cell_far ⟨wr.heap.size, 3, none⟩ (by simp at hzz ⊢; omega) hne2).trans ((World.cell?_alloc_lt w1 _ ⟨wr.heap.size, 3, none⟩ (by simp at hzz ⊢; omega)).trans x3); have y5 := (hgr.cell_far ⟨wr.heap.size, 4, none⟩ (by simp at hzz ⊢; omega) hne2).trans ((World.cell?_alloc_lt w1 _ ⟨wr.heap.size, 4, none⟩ (by simp at hzz ⊢; omega)).trans x5); have yf := (hgr.frozen_far ⟨w.heap.size + 1 + 1, 3, none⟩ (by simp at hzz ⊢; omega) hne1).trans ((World.frozen?_alloc_old w1 _ ⟨w.heap.size + 1 + 1, 3, none⟩ (by simp at hzz ⊢; omega)).trans xf)))
      all_goals
        have hR := app_round (out := w.heap.size + 1 + 1) hG hz (Nat.le_refl _) HQ.out (by simpa using hod) (by simpa using hb1) hown3 hgr hat hlt3 u3
        have HR := Lib.hid hR
        clear hR hb1 hgr hown3 hG1 hGa
        go_wp2_with fail
        obtain ⟨r1, r2, r3, r4, r5, r6⟩ := HR.out
        refine ⟨⟨j + 1, by omega, by go_num, .slice (some ⟨g, 0, none⟩) (ds.length + 1) cap, ds ++ [d], ?_, by simp; omega, by simp; omega, r1, (r2 0 (by omega)).trans u0, (r2 1 (by omega)).trans u1, (r2 2 (by omega)).trans u2, r3, (r4 3).trans uf, by omega, r6⟩, by simp [intOf]; omega⟩
        show _ = _
        rw [List.take_succ_eq_append_getElem hlt, D.erL_append, datL_append, HE.out]
        simp [D.erL, datL, Hde.out]
    · have e1 : l.take j = l := List.take_of_length_le (by omega)
      have he := HE.out
      rw [e1] at he
      have He := Lib.hid he
      clear e1 he
      have zr := (D.Box.new (w.alloc (.cells #[.int .i64 k, .int .i64 n, .string t, .slice sa s.length sc, .slice A l.length c] 46)) (.mk 0 0 ⟨#[]⟩ none 0 []) 29)
      have zf := (D.Blk.new (w.alloc (.cells #[.int .i64 k, .int .i64 n, .string t, .slice sa s.length sc, .slice A l.length c] 46)) 29 #[.int .i64 0, .int .i64 0, .string ⟨#[]⟩, .slice none 0 0])
      simp only [World.size_alloc] at zr zf
      obtain ⟨z0, z1, z2, z3⟩ := zr.below HQ.out (by omega)
      have zf := zf.below HQ.out (by omega)
      have zf0 := zf.frozen 0
      have zf1 := zf.frozen 1
      have zf2 := zf.frozen 2
      have zf3 := zf.frozen 3
      simp only [D.k, D.n, D.t, D.A, D.l, D.c] at z0 z1 z2 z3
      have hG0 := hG
      obtain ⟨hrow, hown, hap⟩ := hG
      rcases hrow with ⟨hr1, ⟨rfl, hr2⟩ | ⟨g, cap, cur, rfl, hr2, hr3, hr4, hr5, hr6, hr7⟩⟩
      · have hds : ds = [] := List.eq_nil_of_length_eq_zero hr2
        subst hds
        go_wp2_with fail
        refine bodyPost_ret (v := .agg #[.int .i64 k, .int .i64 n, .string t, .slice none 0 0]) (by simp [results, Tryd.results60, go_sem, z0, z1, z2, z3]) rfl ⟨.mk k n t none 0 [], rfl, ?_, ?_, ?_⟩
        · simp only [D.er, datD]; rw [← He.out]
        · exact D.Own.no_items (Nat.zero_le _) hcap.2.2
        · exact (((hb.setCell (by simp) _).setCell (by simp) _).setCell (by simp) _).setCell (by simp) _
      · have hcells := hG0.row.cells (g := g) rfl
        have hblk : D.Blk wr g 29 cur := hr3
        have hglt := hblk.lt
        go_wp2_with fail
        refine bodyPost_ret (v := .agg #[.int .i64 k, .int .i64 n, .string t, .slice (some ⟨g, 0, none⟩) ds.length cap]) (by simp [results, Tryd.results60, go_sem, z0, z1, z2, z3]) rfl ⟨.mk k n t (some ⟨g, 0, none⟩) cap ds, rfl, ?_, ?_, ?_⟩
        · simp only [D.er, datD, He.out]
        · have h1 : (D.mk k n t (some ⟨g, 0, none⟩) cap ds).Own (w.heap.size + 1 + 1 + 1) wr.heap.size wr := D.Own.of_row hown ⟨hr4, hr5, hcap.2.2⟩ (hap g rfl) hr2 hglt (fun o => hblk.frozen o) (fun j u hu => by
            have := hcells j u hu
            have e : (⟨g, 0, none⟩ : Addr).add j = ⟨g, j, none⟩ := by unfold Addr.add; split <;> simp_all
            rwa [e] at this)
          simp only [World.size_setCell]
          exact ((((h1.far (by simp <;> omega) _).far (by simp <;> omega) _).far (by simp <;> omega) _).far (by simp <;> omega) _).wide (by omega) (Nat.le_refl _)
        · exact (((hb.setCell (by simp) _).setCell (by simp) _).setCell (by simp) _).setCell (by simp) _

end Go.Proofs.YtjgpekfnfmabbaaDoor
