/-
  Swapped symbols: the model's copy.
-/
import Derived.Test.YtiopophoioiafaaApp
namespace Go.Proofs.Ytiopophoioiafaa
open Go.RowKit
namespace D
/-- A swapped node's text. -/
def swT (a b : ByteArray) (k : Int) (t : ByteArray) : ByteArray := if k = 1 then if t.toList = a.toList then b else if t.toList = b.toList then a else t else t
mutual
/-- The swapped datum. -/
def sw (a b : ByteArray) : D → D | .mk k n t A c l => .mk k n (swT a b k t) A c (swL a b l)
def swL (a b : ByteArray) : List D → List D | [] => [] | d :: r => sw a b d :: swL a b r
end
theorem swL_length (a b : ByteArray) (l : List D) : (swL a b l).length = l.length := by
  induction l with
  | nil => rfl
  | cons d r ih => simp [swL, ih]
theorem swL_append (a b : ByteArray) (l r : List D) : swL a b (l ++ r) = swL a b l ++ swL a b r := by
  induction l with
  | nil => rfl
  | cons d t ih => simp [swL, ih]
theorem er_sw (a b : ByteArray) (d : D) : er (sw a b d) = sw a b (er d) := by
  induction d using ind with
  | h d ih =>
    cases d with
    | mk k n t A c l =>
      have key : ∀ l' : List D, (∀ x ∈ l', x ∈ l) → erL (swL a b l') = swL a b (erL l') := by
        intro l'
        induction l' with
        | nil => intro _; rfl
        | cons x r ih2 =>
          intro hs
          simp only [swL, erL]
          rw [ih x (hs x (by simp)), ih2 fun y hy => hs y (by simp [hy])]
      simp only [sw, er, key l (fun _ h => h)]
theorem erL_swL (a b : ByteArray) (l : List D) : erL (swL a b l) = swL a b (erL l) := by
  induction l with
  | nil => rfl
  | cons x r ih => simp only [swL, erL, er_sw, ih]
theorem swT_size {a b t : ByteArray} {k : Int} {M : Nat} (ha : a.size ≤ M) (hb : b.size ≤ M) (ht : t.size ≤ M) : (swT a b k t).size ≤ M := by
  unfold swT
  split
  · split
    · exact hb
    · split
      · exact ha
      · exact ht
  · exact ht
theorem size_sw (a b : ByteArray) (d : D) : size (sw a b d) = size d := by
  induction d using ind with
  | h d ih =>
    cases d with
    | mk k n t A c l =>
      have key : ∀ l' : List D, (∀ x ∈ l', x ∈ l) → sizeL (swL a b l') = sizeL l' := by
        intro l'
        induction l' with
        | nil => intro _; rfl
        | cons x r ih2 =>
          intro hs
          simp only [swL, sizeL]
          rw [ih x (hs x (by simp)), ih2 fun y hy => hs y (by simp [hy])]
      simp only [sw, size, key l (fun _ h => h)]
theorem blks_sw (a b : ByteArray) (d : D) : blks (sw a b d) = blks d := by
  induction d using ind with
  | h d ih =>
    cases d with
    | mk k n t A c l =>
      have key : ∀ l' : List D, (∀ x ∈ l', x ∈ l) → blksL (swL a b l') = blksL l' := by
        intro l'
        induction l' with
        | nil => intro _; rfl
        | cons x r ih2 =>
          intro hs
          simp only [swL, blksL]
          rw [ih x (hs x (by simp)), ih2 fun y hy => hs y (by simp [hy])]
      simp only [sw, blks, key l (fun _ h => h)]
      congr 2
      cases l <;> rfl
theorem blksL_sw (a b : ByteArray) (l : List D) : blksL (swL a b l) = blksL l := by
  induction l with
  | nil => rfl
  | cons x r ih => simp only [swL, blksL, blks_sw, ih]
end D

def SwOk (sa sb : ByteArray) (m : Nat) : Prop := ∀ (d : D) (B : Nat) (w : World), d.size ≤ m → m ≤ 2000000 → d.In w B → B ≤ w.heap.size → Calls Try.prog 97 #[d.val, .string sa, .string sb] w (RetD (D.sw sa sb d.er) w)

set_option maxRecDepth 100000 in
set_option maxHeartbeats 2000000 in
theorem l1Swap_sw1 (sa sb : ByteArray) (ha : sa.size ≤ 9223372036854775807) (hb : sb.size ≤ 9223372036854775807) (m : Nat) (ih : SwOk sa sb m) (k n : Int) (t : ByteArray) (A : Option Addr) (c : Nat) (l : List D) (B : Nat) (w : World) (hm : (D.mk k n t A c l).size ≤ m + 1) (hm2 : m + 1 ≤ 2000000) (hin : (D.mk k n t A c l).In w B) (hB : B ≤ w.heap.size) (hk : k = 1) (ht : t.toList = sa.toList) :
    Calls Try.prog 97 #[(D.mk k n t A c l).val, .string sa, .string sb] w (RetD (D.sw sa sb (D.mk k n t A c l).er) w) := by
  have hX : D.swT sa sb k t = sb := by simp [D.swT, hk, ht]
  have hk0 : (k == 1) = true := by simp [hk]
  have ht0 : (t.toList == sa.toList) = true := by simp [ht]
  have HX := Lib.hid hX
  have Hsz : Hid (sb.size ≤ 9223372036854775807) := by have := hin.cap.2.2; simp only [D.t] at this; first | exact ha | exact hb | exact this
  clear hX ha hb hk ht
  have hcap := hin.cap
  simp only [D.l, D.c, D.t] at hcap
  simp only [D.val, D.k, D.n, D.t, D.A, D.l, D.c]
  have hmm : D.sizeL l ≤ m := by simp only [D.size] at hm; omega
  have hll := D.length_le_sizeL l
  obtain ⟨i0, hi0, hz0, hz1, hz2⟩ := info_parts infoD
  clear hm
  go_enter Try.func97, Try.ntmps97
  go_wp2_with fail
  go_loopw [42] (fun i wr => ∃ j : Nat, j ≤ l.length ∧ i = .int .i64 j ∧ ∃ (v : Value) (ds : List D), Hid (D.erL ds = D.swL sa sb (D.erL (l.take j))) ∧ ds.length ≤ j ∧ j ≤ ds.length ∧ GrowL (w.heap.size + 1 + 1 + 1) wr v ds ∧
      wr.cell? ⟨w.heap.size + 1 + 1, 0, none⟩ = some (.int .i64 k) ∧ wr.cell? ⟨w.heap.size + 1 + 1, 1, none⟩ = some (.int .i64 n) ∧ wr.cell? ⟨w.heap.size + 1 + 1, 2, none⟩ = some (.string sb) ∧ wr.cell? ⟨w.heap.size + 1 + 1, 3, none⟩ = some v ∧
      wr.frozen? ⟨w.heap.size + 1 + 1, 3, none⟩ = false ∧ w.heap.size + 1 + 1 + 1 ≤ wr.heap.size ∧ Below (w.heap.size + 1 + 1) ((w.alloc (.cells #[.int .i64 k, .int .i64 n, .string t, .slice A l.length c] 25)).alloc (.cells #[.int .i64 0, .int .i64 0, .string ⟨#[]⟩, .slice none 0 0] 25)) wr) (fun i _ => l.length - (intOf i).toNat)
  case atStart =>
    have y := D.Box.new ((w.alloc (.cells #[.int .i64 k, .int .i64 n, .string t, .slice A l.length c] 25)).alloc (.cells #[.int .i64 0, .int .i64 0, .string ⟨#[]⟩, .slice none 0 0] 25)) (.mk k n sb none 0 []) 25
    have yf := (D.Blk.new ((w.alloc (.cells #[.int .i64 k, .int .i64 n, .string t, .slice A l.length c] 25)).alloc (.cells #[.int .i64 0, .int .i64 0, .string ⟨#[]⟩, .slice none 0 0] 25)) 25 #[.int .i64 k, .int .i64 n, .string sb, .slice none 0 0]).frozen 3
    simp only [World.size_alloc] at y yf
    obtain ⟨y0, y1, y2, y3⟩ := y
    exact ⟨0, Nat.zero_le _, rfl, .slice none 0 0, [], by simp [D.erL, D.swL, Hid], Nat.le_refl _, Nat.le_refl _, ⟨World.ownsRow_nil _ _ _ _, D.OwnL.nil_, by simp [Value.ownBlock]⟩, y0, y1, y2, y3, yf, by simp, (Below.refl _ _).alloc (by simp) _⟩
  case round =>
    obtain ⟨j, hj, rfl, v, ds, HE, hd1, hd2, hG, u0, u1, u2, u3, uf, hz, hbq⟩ := hrel
    have hb : Below w.heap.size w wr := (((Below.refl _ _).alloc (Nat.le_refl _) _).alloc (by simp) _).trans (hbq.mono (by omega))
    have hs2 := hb.size
    have HQ := Lib.hid hbq
    clear hbq
    by_cases hlt : j < l.length
    · obtain ⟨b, o, rfl, hblk, c0, c1, c2, c3, hix⟩ := (hin.below (hb.mono hB)).at_ (i := j) (x := l[j]) (List.getElem?_eq_getElem hlt)
      have hsz := D.sizeL_mem (l := l) (List.getElem_mem hlt)
      have x0 := D.Box.new wr l[j] 25
      obtain ⟨g0, g1, g2, g3⟩ := x0
      have al : (wr.alloc (.cells #[.int .i64 l[j].k, .int .i64 l[j].n, .string l[j].t, .slice l[j].A l[j].l.length l[j].c] 25)).cell? ⟨w.heap.size + 1 + 1, 3, none⟩ = some v := (World.cell?_alloc_lt wr _ _ (show w.heap.size + 1 + 1 < wr.heap.size by omega)).trans u3
      have ne1 : w.heap.size + 1 + 1 < wr.heap.size := by omega
      have hGa := hG.below ((Below.refl _ _).alloc (Nat.le_refl _) (.cells #[.int .i64 l[j].k, .int .i64 l[j].n, .string l[j].t, .slice l[j].A l[j].l.length l[j].c] 25))
      have hlen1 : ds.length ≤ 2000000 := by omega
      have hcol := D.cellsL_length ds
      go_wp2_with fail
      have hne1 : some (w.heap.size + 1 + 1) ≠ v.ownBlock := fun e => by have := hG.row.lt _ e.symm; omega
      have hne2 : some wr.heap.size ≠ v.ownBlock := fun e => by have := hG.row.lt _ e.symm; omega
      go_region_law
        (first
          | (go_simp; go_at_call 97; refine (ih l[j] B _ ?_ ?_ ?_ ?_).mono ?_; omega; omega; exact (hix.alloc (by omega) _).drew; (show B ≤ (wr.alloc _).heap.size); (simp; omega); rintro e w1 ⟨d, rfl, hde, hod, hb1⟩; unfold D.val; have hb1 := below_undrew hb1; have Hde := Lib.hid hde; clear hde; have hlt1 : wr.heap.size < (wr.alloc (.cells #[.int .i64 l[j].k, .int .i64 l[j].n, .string l[j].t, .slice l[j].A l[j].l.length l[j].c] 25)).heap.size := (by simp); have x0 := (hb1.cell (p := ⟨wr.heap.size, 0, none⟩) hlt1).trans g0; have x1 := (hb1.cell (p := ⟨wr.heap.size, 1, none⟩) hlt1).trans g1; have x2 := (hb1.cell (p := ⟨wr.heap.size, 2, none⟩) hlt1).trans g2; have x3 := (hb1.cell (p := ⟨wr.heap.size, 3, none⟩) hlt1).trans g3; have x4 := (hb1.cell (p := ⟨w.heap.size + 1 + 1, 3, none⟩) (by simp; omega)).trans al; have hG1 := hGa.below hb1; have hzz := hb1.size; have ne4 : w.heap.size + 1 + 1 < w1.heap.size := (by simp at hzz; omega); have xf := (hb1.frozen (p := ⟨w.heap.size + 1 + 1, 3, none⟩) (by simp; omega)).trans ((World.frozen?_alloc_old wr _ ⟨w.heap.size + 1 + 1, 3, none⟩ (by simp; omega)).trans uf))
          | ((refine step_append_lies _ (by rfl) _ _ _ (by rfl) (w.heap.size + 1 + 1 + 1) 25 i0 _ 4 56 Try.underlying23 hi0 hz0 hz1 hz2 rfl (by omega) v ds.length (D.cellsL ds) (by rfl) ?_ ⟨w1.heap.size, 0, none⟩ 1 1 d.cells (by rfl) (by rfl) ?_ (cells_one d) (by omega) ?_ ?_ ?_ (w1.heap.size + 1) ?_ ?_); exact (hG1.row.alloc _); exact (show ∀ q u, (#[Value.int .i64 d.k, .int .i64 d.n, .string d.t, .slice d.A d.l.length d.c].toList)[q]? = some u → _ from World.news_of_block (heap_alloc_new _ _)); (unfold maxLen; omega); omega; (simp at hzz ⊢; omega); simp; intro g cap w3 hown3 hgr hat hlt3; have y4 := (hgr.cell_far ⟨w.heap.size + 1 + 1, 3, none⟩ (by simp at hzz ⊢; omega) hne1).trans ((World.cell?_alloc_lt w1 _ ⟨w.heap.size + 1 + 1, 3, none⟩ (by simp at hzz ⊢; omega)).trans x4); have y0 := (hgr.cell_far ⟨wr.heap.size, 0, none⟩ (by simp at hzz ⊢; omega) hne2).trans ((World.cell?_alloc_lt w1 _ ⟨wr.heap.size, 0, none⟩ (by simp at hzz ⊢; omega)).trans x0); have y1 := (hgr.cell_far ⟨wr.heap.size, 1, none⟩ (by simp at hzz ⊢; omega) hne2).trans ((World.cell?_alloc_lt w1 _ ⟨wr.heap.size, 1, none⟩ (by simp at hzz ⊢; omega)).trans x1); have y2 := (hgr.cell_far ⟨wr.heap.size, 2, none⟩ (by simp at hzz ⊢; omega) hne2).trans ((World.cell?_alloc_lt w1 _ ⟨wr.heap.size, 2, none⟩ (by simp at hzz ⊢; omega)).trans x2); have y3 := (hgr.cell_far ⟨wr.heap.size, 3, none⟩ (by simp at hzz ⊢; omega) hne2).trans ((World.cell?_alloc_lt w1 _ ⟨wr.heap.size, 3, none⟩ (by simp at hzz ⊢; omega)).trans x3); have yf := (hgr.frozen_far ⟨w.heap.size + 1 + 1, 3, none⟩ (by simp at hzz ⊢; omega) hne1).trans ((World.frozen?_alloc_old w1 _ ⟨w.heap.size + 1 + 1, 3, none⟩ (by simp at hzz ⊢; omega)).trans xf)))
      all_goals
        have hR := app_round (out := w.heap.size + 1 + 1) hG hz (Nat.le_refl _) HQ.out (by simpa using hod) (by simpa using hb1) hown3 hgr hat hlt3 u3
        have HR := Lib.hid hR
        clear hR hb1 hgr hown3 hG1 hGa
        go_wp2_with fail
        obtain ⟨r1, r2, r3, r4, r5, r6⟩ := HR.out
        refine ⟨⟨j + 1, by omega, by go_num, .slice (some ⟨g, 0, none⟩) (ds.length + 1) cap, ds ++ [d], ?_, by simp; omega, by simp; omega, r1, (r2 0 (by omega)).trans u0, (r2 1 (by omega)).trans u1, (r2 2 (by omega)).trans u2, r3, (r4 3).trans uf, by omega, r6⟩, by simp [intOf]; omega⟩
        show _ = _
        rw [List.take_succ_eq_append_getElem hlt, D.erL_append, D.erL_append, HE.out, D.swL_append]
        simp [D.erL, D.swL, Hde.out]
    · have e1 : l.take j = l := List.take_of_length_le (by omega)
      have he := HE.out
      rw [e1] at he
      have He := Lib.hid he
      clear e1 he
      have zr := (D.Box.new (w.alloc (.cells #[.int .i64 k, .int .i64 n, .string t, .slice A l.length c] 25)) (.mk 0 0 ⟨#[]⟩ none 0 []) 25)
      have zf := (D.Blk.new (w.alloc (.cells #[.int .i64 k, .int .i64 n, .string t, .slice A l.length c] 25)) 25 #[.int .i64 0, .int .i64 0, .string ⟨#[]⟩, .slice none 0 0])
      simp only [World.size_alloc] at zr zf
      obtain ⟨z0, z1, z2, z3⟩ := zr.below HQ.out (by omega)
      have zf := zf.below HQ.out (by omega)
      have zf0 := zf.frozen 0
      have zf1 := zf.frozen 1
      have zf2 := zf.frozen 2
      have zf3 := zf.frozen 3
      simp only [D.k, D.n, D.t, D.A, D.l, D.c] at z0 z1 z2 z3
      have hG0 := hG
      obtain ⟨hrow, hown, hap⟩ := hG
      rcases hrow with ⟨hr1, ⟨rfl, hr2⟩ | ⟨g, cap, cur, rfl, hr2, hr3, hr4, hr5, hr6, hr7⟩⟩
      · have hds : ds = [] := List.eq_nil_of_length_eq_zero hr2
        subst hds
        go_wp2_with fail
        refine bodyPost_ret (v := .agg #[.int .i64 k, .int .i64 n, .string sb, .slice none 0 0]) (by simp [results, Try.results97, go_sem, z0, z1, z2, z3]) rfl ⟨.mk k n sb none 0 [], rfl, ?_, ?_, ?_⟩
        · simp only [D.er, D.sw]; rw [← He.out, HX.out]
        · exact D.Own.no_items (Nat.zero_le _) Hsz.out
        · exact (((hb.setCell (by simp) _).setCell (by simp) _).setCell (by simp) _).setCell (by simp) _
      · have hcells := hG0.row.cells (g := g) rfl
        have hblk : D.Blk wr g 25 cur := hr3
        have hglt := hblk.lt
        go_wp2_with fail
        refine bodyPost_ret (v := .agg #[.int .i64 k, .int .i64 n, .string sb, .slice (some ⟨g, 0, none⟩) ds.length cap]) (by simp [results, Try.results97, go_sem, z0, z1, z2, z3]) rfl ⟨.mk k n sb (some ⟨g, 0, none⟩) cap ds, rfl, ?_, ?_, ?_⟩
        · simp only [D.er, D.sw, He.out, HX.out]
        · have h1 : (D.mk k n sb (some ⟨g, 0, none⟩) cap ds).Own (w.heap.size + 1 + 1 + 1) wr.heap.size wr := D.Own.of_row hown ⟨hr4, hr5, Hsz.out⟩ (hap g rfl) hr2 hglt (fun o => hblk.frozen o) (fun j u hu => by
            have := hcells j u hu
            have e : (⟨g, 0, none⟩ : Addr).add j = ⟨g, j, none⟩ := by unfold Addr.add; split <;> simp_all
            rwa [e] at this)
          simp only [World.size_setCell]
          exact ((((h1.far (by simp <;> omega) _).far (by simp <;> omega) _).far (by simp <;> omega) _).far (by simp <;> omega) _).wide (by omega) (Nat.le_refl _)
        · exact (((hb.setCell (by simp) _).setCell (by simp) _).setCell (by simp) _).setCell (by simp) _

set_option maxRecDepth 100000 in
set_option maxHeartbeats 2000000 in
theorem l1Swap_sw2 (sa sb : ByteArray) (ha : sa.size ≤ 9223372036854775807) (hb : sb.size ≤ 9223372036854775807) (m : Nat) (ih : SwOk sa sb m) (k n : Int) (t : ByteArray) (A : Option Addr) (c : Nat) (l : List D) (B : Nat) (w : World) (hm : (D.mk k n t A c l).size ≤ m + 1) (hm2 : m + 1 ≤ 2000000) (hin : (D.mk k n t A c l).In w B) (hB : B ≤ w.heap.size) (hk : k = 1) (ht : ¬ t.toList = sa.toList) (ht2 : t.toList = sb.toList) :
    Calls Try.prog 97 #[(D.mk k n t A c l).val, .string sa, .string sb] w (RetD (D.sw sa sb (D.mk k n t A c l).er) w) := by
  have hX : D.swT sa sb k t = sa := by (simp only [D.swT, hk, if_true, if_neg ht, if_pos ht2])
  have hk0 : (k == 1) = true := by simp [hk]
  have ht0 : (t.toList == sa.toList) = false := by simpa using ht
  have ht1 : (t.toList == sb.toList) = true := by simp [ht2]
  have HX := Lib.hid hX
  have Hsz : Hid (sa.size ≤ 9223372036854775807) := by have := hin.cap.2.2; simp only [D.t] at this; first | exact ha | exact hb | exact this
  clear hX ha hb hk ht ht2
  have hcap := hin.cap
  simp only [D.l, D.c, D.t] at hcap
  simp only [D.val, D.k, D.n, D.t, D.A, D.l, D.c]
  have hmm : D.sizeL l ≤ m := by simp only [D.size] at hm; omega
  have hll := D.length_le_sizeL l
  obtain ⟨i0, hi0, hz0, hz1, hz2⟩ := info_parts infoD
  clear hm
  go_enter Try.func97, Try.ntmps97
  go_wp2_with fail
  go_loopw [42] (fun i wr => ∃ j : Nat, j ≤ l.length ∧ i = .int .i64 j ∧ ∃ (v : Value) (ds : List D), Hid (D.erL ds = D.swL sa sb (D.erL (l.take j))) ∧ ds.length ≤ j ∧ j ≤ ds.length ∧ GrowL (w.heap.size + 1 + 1 + 1) wr v ds ∧
      wr.cell? ⟨w.heap.size + 1 + 1, 0, none⟩ = some (.int .i64 k) ∧ wr.cell? ⟨w.heap.size + 1 + 1, 1, none⟩ = some (.int .i64 n) ∧ wr.cell? ⟨w.heap.size + 1 + 1, 2, none⟩ = some (.string sa) ∧ wr.cell? ⟨w.heap.size + 1 + 1, 3, none⟩ = some v ∧
      wr.frozen? ⟨w.heap.size + 1 + 1, 3, none⟩ = false ∧ w.heap.size + 1 + 1 + 1 ≤ wr.heap.size ∧ Below (w.heap.size + 1 + 1) ((w.alloc (.cells #[.int .i64 k, .int .i64 n, .string t, .slice A l.length c] 25)).alloc (.cells #[.int .i64 0, .int .i64 0, .string ⟨#[]⟩, .slice none 0 0] 25)) wr) (fun i _ => l.length - (intOf i).toNat)
  case atStart =>
    have y := D.Box.new ((w.alloc (.cells #[.int .i64 k, .int .i64 n, .string t, .slice A l.length c] 25)).alloc (.cells #[.int .i64 0, .int .i64 0, .string ⟨#[]⟩, .slice none 0 0] 25)) (.mk k n sa none 0 []) 25
    have yf := (D.Blk.new ((w.alloc (.cells #[.int .i64 k, .int .i64 n, .string t, .slice A l.length c] 25)).alloc (.cells #[.int .i64 0, .int .i64 0, .string ⟨#[]⟩, .slice none 0 0] 25)) 25 #[.int .i64 k, .int .i64 n, .string sa, .slice none 0 0]).frozen 3
    simp only [World.size_alloc] at y yf
    obtain ⟨y0, y1, y2, y3⟩ := y
    exact ⟨0, Nat.zero_le _, rfl, .slice none 0 0, [], by simp [D.erL, D.swL, Hid], Nat.le_refl _, Nat.le_refl _, ⟨World.ownsRow_nil _ _ _ _, D.OwnL.nil_, by simp [Value.ownBlock]⟩, y0, y1, y2, y3, yf, by simp, (Below.refl _ _).alloc (by simp) _⟩
  case round =>
    obtain ⟨j, hj, rfl, v, ds, HE, hd1, hd2, hG, u0, u1, u2, u3, uf, hz, hbq⟩ := hrel
    have hb : Below w.heap.size w wr := (((Below.refl _ _).alloc (Nat.le_refl _) _).alloc (by simp) _).trans (hbq.mono (by omega))
    have hs2 := hb.size
    have HQ := Lib.hid hbq
    clear hbq
    by_cases hlt : j < l.length
    · obtain ⟨b, o, rfl, hblk, c0, c1, c2, c3, hix⟩ := (hin.below (hb.mono hB)).at_ (i := j) (x := l[j]) (List.getElem?_eq_getElem hlt)
      have hsz := D.sizeL_mem (l := l) (List.getElem_mem hlt)
      have x0 := D.Box.new wr l[j] 25
      obtain ⟨g0, g1, g2, g3⟩ := x0
      have al : (wr.alloc (.cells #[.int .i64 l[j].k, .int .i64 l[j].n, .string l[j].t, .slice l[j].A l[j].l.length l[j].c] 25)).cell? ⟨w.heap.size + 1 + 1, 3, none⟩ = some v := (World.cell?_alloc_lt wr _ _ (show w.heap.size + 1 + 1 < wr.heap.size by omega)).trans u3
      have ne1 : w.heap.size + 1 + 1 < wr.heap.size := by omega
      have hGa := hG.below ((Below.refl _ _).alloc (Nat.le_refl _) (.cells #[.int .i64 l[j].k, .int .i64 l[j].n, .string l[j].t, .slice l[j].A l[j].l.length l[j].c] 25))
      have hlen1 : ds.length ≤ 2000000 := by omega
      have hcol := D.cellsL_length ds
      go_wp2_with fail
      have hne1 : some (w.heap.size + 1 + 1) ≠ v.ownBlock := fun e => by have := hG.row.lt _ e.symm; omega
      have hne2 : some wr.heap.size ≠ v.ownBlock := fun e => by have := hG.row.lt _ e.symm; omega
      go_region_law
        (first
          | (go_simp; go_at_call 97; refine (ih l[j] B _ ?_ ?_ ?_ ?_).mono ?_; omega; omega; exact (hix.alloc (by omega) _).drew; (show B ≤ (wr.alloc _).heap.size); (simp; omega); rintro e w1 ⟨d, rfl, hde, hod, hb1⟩; unfold D.val; have hb1 := below_undrew hb1; have Hde := Lib.hid hde; clear hde; have hlt1 : wr.heap.size < (wr.alloc (.cells #[.int .i64 l[j].k, .int .i64 l[j].n, .string l[j].t, .slice l[j].A l[j].l.length l[j].c] 25)).heap.size := (by simp); have x0 := (hb1.cell (p := ⟨wr.heap.size, 0, none⟩) hlt1).trans g0; have x1 := (hb1.cell (p := ⟨wr.heap.size, 1, none⟩) hlt1).trans g1; have x2 := (hb1.cell (p := ⟨wr.heap.size, 2, none⟩) hlt1).trans g2; have x3 := (hb1.cell (p := ⟨wr.heap.size, 3, none⟩) hlt1).trans g3; have x4 := (hb1.cell (p := ⟨w.heap.size + 1 + 1, 3, none⟩) (by simp; omega)).trans al; have hG1 := hGa.below hb1; have hzz := hb1.size; have ne4 : w.heap.size + 1 + 1 < w1.heap.size := (by simp at hzz; omega); have xf := (hb1.frozen (p := ⟨w.heap.size + 1 + 1, 3, none⟩) (by simp; omega)).trans ((World.frozen?_alloc_old wr _ ⟨w.heap.size + 1 + 1, 3, none⟩ (by simp; omega)).trans uf))
          | ((refine step_append_lies _ (by rfl) _ _ _ (by rfl) (w.heap.size + 1 + 1 + 1) 25 i0 _ 4 56 Try.underlying23 hi0 hz0 hz1 hz2 rfl (by omega) v ds.length (D.cellsL ds) (by rfl) ?_ ⟨w1.heap.size, 0, none⟩ 1 1 d.cells (by rfl) (by rfl) ?_ (cells_one d) (by omega) ?_ ?_ ?_ (w1.heap.size + 1) ?_ ?_); exact (hG1.row.alloc _); exact (show ∀ q u, (#[Value.int .i64 d.k, .int .i64 d.n, .string d.t, .slice d.A d.l.length d.c].toList)[q]? = some u → _ from World.news_of_block (heap_alloc_new _ _)); (unfold maxLen; omega); omega; (simp at hzz ⊢; omega); simp; intro g cap w3 hown3 hgr hat hlt3; have y4 := (hgr.cell_far ⟨w.heap.size + 1 + 1, 3, none⟩ (by simp at hzz ⊢; omega) hne1).trans ((World.cell?_alloc_lt w1 _ ⟨w.heap.size + 1 + 1, 3, none⟩ (by simp at hzz ⊢; omega)).trans x4); have y0 := (hgr.cell_far ⟨wr.heap.size, 0, none⟩ (by simp at hzz ⊢; omega) hne2).trans ((World.cell?_alloc_lt w1 _ ⟨wr.heap.size, 0, none⟩ (by simp at hzz ⊢; omega)).trans x0); have y1 := (hgr.cell_far ⟨wr.heap.size, 1, none⟩ (by simp at hzz ⊢; omega) hne2).trans ((World.cell?_alloc_lt w1 _ ⟨wr.heap.size, 1, none⟩ (by simp at hzz ⊢; omega)).trans x1); have y2 := (hgr.cell_far ⟨wr.heap.size, 2, none⟩ (by simp at hzz ⊢; omega) hne2).trans ((World.cell?_alloc_lt w1 _ ⟨wr.heap.size, 2, none⟩ (by simp at hzz ⊢; omega)).trans x2); have y3 := (hgr.cell_far ⟨wr.heap.size, 3, none⟩ (by simp at hzz ⊢; omega) hne2).trans ((World.cell?_alloc_lt w1 _ ⟨wr.heap.size, 3, none⟩ (by simp at hzz ⊢; omega)).trans x3); have yf := (hgr.frozen_far ⟨w.heap.size + 1 + 1, 3, none⟩ (by simp at hzz ⊢; omega) hne1).trans ((World.frozen?_alloc_old w1 _ ⟨w.heap.size + 1 + 1, 3, none⟩ (by simp at hzz ⊢; omega)).trans xf)))
      all_goals
        have hR := app_round (out := w.heap.size + 1 + 1) hG hz (Nat.le_refl _) HQ.out (by simpa using hod) (by simpa using hb1) hown3 hgr hat hlt3 u3
        have HR := Lib.hid hR
        clear hR hb1 hgr hown3 hG1 hGa
        go_wp2_with fail
        obtain ⟨r1, r2, r3, r4, r5, r6⟩ := HR.out
        refine ⟨⟨j + 1, by omega, by go_num, .slice (some ⟨g, 0, none⟩) (ds.length + 1) cap, ds ++ [d], ?_, by simp; omega, by simp; omega, r1, (r2 0 (by omega)).trans u0, (r2 1 (by omega)).trans u1, (r2 2 (by omega)).trans u2, r3, (r4 3).trans uf, by omega, r6⟩, by simp [intOf]; omega⟩
        show _ = _
        rw [List.take_succ_eq_append_getElem hlt, D.erL_append, D.erL_append, HE.out, D.swL_append]
        simp [D.erL, D.swL, Hde.out]
    · have e1 : l.take j = l := List.take_of_length_le (by omega)
      have he := HE.out
      rw [e1] at he
      have He := Lib.hid he
      clear e1 he
      have zr := (D.Box.new (w.alloc (.cells #[.int .i64 k, .int .i64 n, .string t, .slice A l.length c] 25)) (.mk 0 0 ⟨#[]⟩ none 0 []) 25)
      have zf := (D.Blk.new (w.alloc (.cells #[.int .i64 k, .int .i64 n, .string t, .slice A l.length c] 25)) 25 #[.int .i64 0, .int .i64 0, .string ⟨#[]⟩, .slice none 0 0])
      simp only [World.size_alloc] at zr zf
      obtain ⟨z0, z1, z2, z3⟩ := zr.below HQ.out (by omega)
      have zf := zf.below HQ.out (by omega)
      have zf0 := zf.frozen 0
      have zf1 := zf.frozen 1
      have zf2 := zf.frozen 2
      have zf3 := zf.frozen 3
      simp only [D.k, D.n, D.t, D.A, D.l, D.c] at z0 z1 z2 z3
      have hG0 := hG
      obtain ⟨hrow, hown, hap⟩ := hG
      rcases hrow with ⟨hr1, ⟨rfl, hr2⟩ | ⟨g, cap, cur, rfl, hr2, hr3, hr4, hr5, hr6, hr7⟩⟩
      · have hds : ds = [] := List.eq_nil_of_length_eq_zero hr2
        subst hds
        go_wp2_with fail
        refine bodyPost_ret (v := .agg #[.int .i64 k, .int .i64 n, .string sa, .slice none 0 0]) (by simp [results, Try.results97, go_sem, z0, z1, z2, z3]) rfl ⟨.mk k n sa none 0 [], rfl, ?_, ?_, ?_⟩
        · simp only [D.er, D.sw]; rw [← He.out, HX.out]
        · exact D.Own.no_items (Nat.zero_le _) Hsz.out
        · exact (((hb.setCell (by simp) _).setCell (by simp) _).setCell (by simp) _).setCell (by simp) _
      · have hcells := hG0.row.cells (g := g) rfl
        have hblk : D.Blk wr g 25 cur := hr3
        have hglt := hblk.lt
        go_wp2_with fail
        refine bodyPost_ret (v := .agg #[.int .i64 k, .int .i64 n, .string sa, .slice (some ⟨g, 0, none⟩) ds.length cap]) (by simp [results, Try.results97, go_sem, z0, z1, z2, z3]) rfl ⟨.mk k n sa (some ⟨g, 0, none⟩) cap ds, rfl, ?_, ?_, ?_⟩
        · simp only [D.er, D.sw, He.out, HX.out]
        · have h1 : (D.mk k n sa (some ⟨g, 0, none⟩) cap ds).Own (w.heap.size + 1 + 1 + 1) wr.heap.size wr := D.Own.of_row hown ⟨hr4, hr5, Hsz.out⟩ (hap g rfl) hr2 hglt (fun o => hblk.frozen o) (fun j u hu => by
            have := hcells j u hu
            have e : (⟨g, 0, none⟩ : Addr).add j = ⟨g, j, none⟩ := by unfold Addr.add; split <;> simp_all
            rwa [e] at this)
          simp only [World.size_setCell]
          exact ((((h1.far (by simp <;> omega) _).far (by simp <;> omega) _).far (by simp <;> omega) _).far (by simp <;> omega) _).wide (by omega) (Nat.le_refl _)
        · exact (((hb.setCell (by simp) _).setCell (by simp) _).setCell (by simp) _).setCell (by simp) _

set_option maxRecDepth 100000 in
set_option maxHeartbeats 2000000 in
theorem l1Swap_sw3 (sa sb : ByteArray) (ha : sa.size ≤ 9223372036854775807) (hb : sb.size ≤ 9223372036854775807) (m : Nat) (ih : SwOk sa sb m) (k n : Int) (t : ByteArray) (A : Option Addr) (c : Nat) (l : List D) (B : Nat) (w : World) (hm : (D.mk k n t A c l).size ≤ m + 1) (hm2 : m + 1 ≤ 2000000) (hin : (D.mk k n t A c l).In w B) (hB : B ≤ w.heap.size) (hk : k = 1) (ht : ¬ t.toList = sa.toList) (ht2 : ¬ t.toList = sb.toList) :
    Calls Try.prog 97 #[(D.mk k n t A c l).val, .string sa, .string sb] w (RetD (D.sw sa sb (D.mk k n t A c l).er) w) := by
  have hX : D.swT sa sb k t = t := by (simp only [D.swT, hk, if_true, if_neg ht, if_neg ht2])
  have hk0 : (k == 1) = true := by simp [hk]
  have ht0 : (t.toList == sa.toList) = false := by simpa using ht
  have ht1 : (t.toList == sb.toList) = false := by simpa using ht2
  have HX := Lib.hid hX
  have Hsz : Hid (t.size ≤ 9223372036854775807) := by have := hin.cap.2.2; simp only [D.t] at this; first | exact ha | exact hb | exact this
  clear hX ha hb hk ht ht2
  have hcap := hin.cap
  simp only [D.l, D.c, D.t] at hcap
  simp only [D.val, D.k, D.n, D.t, D.A, D.l, D.c]
  have hmm : D.sizeL l ≤ m := by simp only [D.size] at hm; omega
  have hll := D.length_le_sizeL l
  obtain ⟨i0, hi0, hz0, hz1, hz2⟩ := info_parts infoD
  clear hm
  go_enter Try.func97, Try.ntmps97
  go_wp2_with fail
  go_loopw [42] (fun i wr => ∃ j : Nat, j ≤ l.length ∧ i = .int .i64 j ∧ ∃ (v : Value) (ds : List D), Hid (D.erL ds = D.swL sa sb (D.erL (l.take j))) ∧ ds.length ≤ j ∧ j ≤ ds.length ∧ GrowL (w.heap.size + 1 + 1 + 1) wr v ds ∧
      wr.cell? ⟨w.heap.size + 1 + 1, 0, none⟩ = some (.int .i64 k) ∧ wr.cell? ⟨w.heap.size + 1 + 1, 1, none⟩ = some (.int .i64 n) ∧ wr.cell? ⟨w.heap.size + 1 + 1, 2, none⟩ = some (.string t) ∧ wr.cell? ⟨w.heap.size + 1 + 1, 3, none⟩ = some v ∧
      wr.frozen? ⟨w.heap.size + 1 + 1, 3, none⟩ = false ∧ w.heap.size + 1 + 1 + 1 ≤ wr.heap.size ∧ Below (w.heap.size + 1 + 1) ((w.alloc (.cells #[.int .i64 k, .int .i64 n, .string t, .slice A l.length c] 25)).alloc (.cells #[.int .i64 0, .int .i64 0, .string ⟨#[]⟩, .slice none 0 0] 25)) wr) (fun i _ => l.length - (intOf i).toNat)
  case atStart =>
    have y := D.Box.new ((w.alloc (.cells #[.int .i64 k, .int .i64 n, .string t, .slice A l.length c] 25)).alloc (.cells #[.int .i64 0, .int .i64 0, .string ⟨#[]⟩, .slice none 0 0] 25)) (.mk k n t none 0 []) 25
    have yf := (D.Blk.new ((w.alloc (.cells #[.int .i64 k, .int .i64 n, .string t, .slice A l.length c] 25)).alloc (.cells #[.int .i64 0, .int .i64 0, .string ⟨#[]⟩, .slice none 0 0] 25)) 25 #[.int .i64 k, .int .i64 n, .string t, .slice none 0 0]).frozen 3
    simp only [World.size_alloc] at y yf
    obtain ⟨y0, y1, y2, y3⟩ := y
    exact ⟨0, Nat.zero_le _, rfl, .slice none 0 0, [], by simp [D.erL, D.swL, Hid], Nat.le_refl _, Nat.le_refl _, ⟨World.ownsRow_nil _ _ _ _, D.OwnL.nil_, by simp [Value.ownBlock]⟩, y0, y1, y2, y3, yf, by simp, (Below.refl _ _).alloc (by simp) _⟩
  case round =>
    obtain ⟨j, hj, rfl, v, ds, HE, hd1, hd2, hG, u0, u1, u2, u3, uf, hz, hbq⟩ := hrel
    have hb : Below w.heap.size w wr := (((Below.refl _ _).alloc (Nat.le_refl _) _).alloc (by simp) _).trans (hbq.mono (by omega))
    have hs2 := hb.size
    have HQ := Lib.hid hbq
    clear hbq
    by_cases hlt : j < l.length
    · obtain ⟨b, o, rfl, hblk, c0, c1, c2, c3, hix⟩ := (hin.below (hb.mono hB)).at_ (i := j) (x := l[j]) (List.getElem?_eq_getElem hlt)
      have hsz := D.sizeL_mem (l := l) (List.getElem_mem hlt)
      have x0 := D.Box.new wr l[j] 25
      obtain ⟨g0, g1, g2, g3⟩ := x0
      have al : (wr.alloc (.cells #[.int .i64 l[j].k, .int .i64 l[j].n, .string l[j].t, .slice l[j].A l[j].l.length l[j].c] 25)).cell? ⟨w.heap.size + 1 + 1, 3, none⟩ = some v := (World.cell?_alloc_lt wr _ _ (show w.heap.size + 1 + 1 < wr.heap.size by omega)).trans u3
      have ne1 : w.heap.size + 1 + 1 < wr.heap.size := by omega
      have hGa := hG.below ((Below.refl _ _).alloc (Nat.le_refl _) (.cells #[.int .i64 l[j].k, .int .i64 l[j].n, .string l[j].t, .slice l[j].A l[j].l.length l[j].c] 25))
      have hlen1 : ds.length ≤ 2000000 := by omega
      have hcol := D.cellsL_length ds
      go_wp2_with fail
      have hne1 : some (w.heap.size + 1 + 1) ≠ v.ownBlock := fun e => by have := hG.row.lt _ e.symm; omega
      have hne2 : some wr.heap.size ≠ v.ownBlock := fun e => by have := hG.row.lt _ e.symm; omega
      go_region_law
        (first
          | (go_simp; go_at_call 97; refine (ih l[j] B _ ?_ ?_ ?_ ?_).mono ?_; omega; omega; exact (hix.alloc (by omega) _).drew; (show B ≤ (wr.alloc _).heap.size); (simp; omega); rintro e w1 ⟨d, rfl, hde, hod, hb1⟩; unfold D.val; have hb1 := below_undrew hb1; have Hde := Lib.hid hde; clear hde; have hlt1 : wr.heap.size < (wr.alloc (.cells #[.int .i64 l[j].k, .int .i64 l[j].n, .string l[j].t, .slice l[j].A l[j].l.length l[j].c] 25)).heap.size := (by simp); have x0 := (hb1.cell (p := ⟨wr.heap.size, 0, none⟩) hlt1).trans g0; have x1 := (hb1.cell (p := ⟨wr.heap.size, 1, none⟩) hlt1).trans g1; have x2 := (hb1.cell (p := ⟨wr.heap.size, 2, none⟩) hlt1).trans g2; have x3 := (hb1.cell (p := ⟨wr.heap.size, 3, none⟩) hlt1).trans g3; have x4 := (hb1.cell (p := ⟨w.heap.size + 1 + 1, 3, none⟩) (by simp; omega)).trans al; have hG1 := hGa.below hb1; have hzz := hb1.size; have ne4 : w.heap.size + 1 + 1 < w1.heap.size := (by simp at hzz; omega); have xf := (hb1.frozen (p := ⟨w.heap.size + 1 + 1, 3, none⟩) (by simp; omega)).trans ((World.frozen?_alloc_old wr _ ⟨w.heap.size + 1 + 1, 3, none⟩ (by simp; omega)).trans uf))
          | ((refine step_append_lies _ (by rfl) _ _ _ (by rfl) (w.heap.size + 1 + 1 + 1) 25 i0 _ 4 56 Try.underlying23 hi0 hz0 hz1 hz2 rfl (by omega) v ds.length (D.cellsL ds) (by rfl) ?_ ⟨w1.heap.size, 0, none⟩ 1 1 d.cells (by rfl) (by rfl) ?_ (cells_one d) (by omega) ?_ ?_ ?_ (w1.heap.size + 1) ?_ ?_); exact (hG1.row.alloc _); exact (show ∀ q u, (#[Value.int .i64 d.k, .int .i64 d.n, .string d.t, .slice d.A d.l.length d.c].toList)[q]? = some u → _ from World.news_of_block (heap_alloc_new _ _)); (unfold maxLen; omega); omega; (simp at hzz ⊢; omega); simp; intro g cap w3 hown3 hgr hat hlt3; have y4 := (hgr.cell_far ⟨w.heap.size + 1 + 1, 3, none⟩ (by simp at hzz ⊢; omega) hne1).trans ((World.cell?_alloc_lt w1 _ ⟨w.heap.size + 1 + 1, 3, none⟩ (by simp at hzz ⊢; omega)).trans x4); have y0 := (hgr.cell_far ⟨wr.heap.size, 0, none⟩ (by simp at hzz ⊢; omega) hne2).trans ((World.cell?_alloc_lt w1 _ ⟨wr.heap.size, 0, none⟩ (by simp at hzz ⊢; omega)).trans x0); have y1 := (hgr.cell_far ⟨wr.heap.size, 1, none⟩ (by simp at hzz ⊢; omega) hne2).trans ((World.cell?_alloc_lt w1 _ ⟨wr.heap.size, 1, none⟩ (by simp at hzz ⊢; omega)).trans x1); have y2 := (hgr.cell_far ⟨wr.heap.size, 2, none⟩ (by simp at hzz ⊢; omega) hne2).trans ((World.cell?_alloc_lt w1 _ ⟨wr.heap.size, 2, none⟩ (by simp at hzz ⊢; omega)).trans x2); have y3 := (hgr.cell_far ⟨wr.heap.size, 3, none⟩ (by simp at hzz ⊢; omega) hne2).trans ((World.cell?_alloc_lt w1 _ ⟨wr.heap.size, 3, none⟩ (by simp at hzz ⊢; omega)).trans x3); have yf := (hgr.frozen_far ⟨w.heap.size + 1 + 1, 3, none⟩ (by simp at hzz ⊢; omega) hne1).trans ((World.frozen?_alloc_old w1 _ ⟨w.heap.size + 1 + 1, 3, none⟩ (by simp at hzz ⊢; omega)).trans xf)))
      all_goals
        have hR := app_round (out := w.heap.size + 1 + 1) hG hz (Nat.le_refl _) HQ.out (by simpa using hod) (by simpa using hb1) hown3 hgr hat hlt3 u3
        have HR := Lib.hid hR
        clear hR hb1 hgr hown3 hG1 hGa
        go_wp2_with fail
        obtain ⟨r1, r2, r3, r4, r5, r6⟩ := HR.out
        refine ⟨⟨j + 1, by omega, by go_num, .slice (some ⟨g, 0, none⟩) (ds.length + 1) cap, ds ++ [d], ?_, by simp; omega, by simp; omega, r1, (r2 0 (by omega)).trans u0, (r2 1 (by omega)).trans u1, (r2 2 (by omega)).trans u2, r3, (r4 3).trans uf, by omega, r6⟩, by simp [intOf]; omega⟩
        show _ = _
        rw [List.take_succ_eq_append_getElem hlt, D.erL_append, D.erL_append, HE.out, D.swL_append]
        simp [D.erL, D.swL, Hde.out]
    · have e1 : l.take j = l := List.take_of_length_le (by omega)
      have he := HE.out
      rw [e1] at he
      have He := Lib.hid he
      clear e1 he
      have zr := (D.Box.new (w.alloc (.cells #[.int .i64 k, .int .i64 n, .string t, .slice A l.length c] 25)) (.mk 0 0 ⟨#[]⟩ none 0 []) 25)
      have zf := (D.Blk.new (w.alloc (.cells #[.int .i64 k, .int .i64 n, .string t, .slice A l.length c] 25)) 25 #[.int .i64 0, .int .i64 0, .string ⟨#[]⟩, .slice none 0 0])
      simp only [World.size_alloc] at zr zf
      obtain ⟨z0, z1, z2, z3⟩ := zr.below HQ.out (by omega)
      have zf := zf.below HQ.out (by omega)
      have zf0 := zf.frozen 0
      have zf1 := zf.frozen 1
      have zf2 := zf.frozen 2
      have zf3 := zf.frozen 3
      simp only [D.k, D.n, D.t, D.A, D.l, D.c] at z0 z1 z2 z3
      have hG0 := hG
      obtain ⟨hrow, hown, hap⟩ := hG
      rcases hrow with ⟨hr1, ⟨rfl, hr2⟩ | ⟨g, cap, cur, rfl, hr2, hr3, hr4, hr5, hr6, hr7⟩⟩
      · have hds : ds = [] := List.eq_nil_of_length_eq_zero hr2
        subst hds
        go_wp2_with fail
        refine bodyPost_ret (v := .agg #[.int .i64 k, .int .i64 n, .string t, .slice none 0 0]) (by simp [results, Try.results97, go_sem, z0, z1, z2, z3]) rfl ⟨.mk k n t none 0 [], rfl, ?_, ?_, ?_⟩
        · simp only [D.er, D.sw]; rw [← He.out, HX.out]
        · exact D.Own.no_items (Nat.zero_le _) Hsz.out
        · exact (((hb.setCell (by simp) _).setCell (by simp) _).setCell (by simp) _).setCell (by simp) _
      · have hcells := hG0.row.cells (g := g) rfl
        have hblk : D.Blk wr g 25 cur := hr3
        have hglt := hblk.lt
        go_wp2_with fail
        refine bodyPost_ret (v := .agg #[.int .i64 k, .int .i64 n, .string t, .slice (some ⟨g, 0, none⟩) ds.length cap]) (by simp [results, Try.results97, go_sem, z0, z1, z2, z3]) rfl ⟨.mk k n t (some ⟨g, 0, none⟩) cap ds, rfl, ?_, ?_, ?_⟩
        · simp only [D.er, D.sw, He.out, HX.out]
        · have h1 : (D.mk k n t (some ⟨g, 0, none⟩) cap ds).Own (w.heap.size + 1 + 1 + 1) wr.heap.size wr := D.Own.of_row hown ⟨hr4, hr5, Hsz.out⟩ (hap g rfl) hr2 hglt (fun o => hblk.frozen o) (fun j u hu => by
            have := hcells j u hu
            have e : (⟨g, 0, none⟩ : Addr).add j = ⟨g, j, none⟩ := by unfold Addr.add; split <;> simp_all
            rwa [e] at this)
          simp only [World.size_setCell]
          exact ((((h1.far (by simp <;> omega) _).far (by simp <;> omega) _).far (by simp <;> omega) _).far (by simp <;> omega) _).wide (by omega) (Nat.le_refl _)
        · exact (((hb.setCell (by simp) _).setCell (by simp) _).setCell (by simp) _).setCell (by simp) _

set_option maxRecDepth 100000 in
set_option maxHeartbeats 2000000 in
theorem l1Swap_sw4 (sa sb : ByteArray) (ha : sa.size ≤ 9223372036854775807) (hb : sb.size ≤ 9223372036854775807) (m : Nat) (ih : SwOk sa sb m) (k n : Int) (t : ByteArray) (A : Option Addr) (c : Nat) (l : List D) (B : Nat) (w : World) (hm : (D.mk k n t A c l).size ≤ m + 1) (hm2 : m + 1 ≤ 2000000) (hin : (D.mk k n t A c l).In w B) (hB : B ≤ w.heap.size) (hk : ¬ k = 1) :
    Calls Try.prog 97 #[(D.mk k n t A c l).val, .string sa, .string sb] w (RetD (D.sw sa sb (D.mk k n t A c l).er) w) := by
  have hX : D.swT sa sb k t = t := by simp [D.swT, hk]
  have hk0 : (k == 1) = false := by simpa using hk
  have HX := Lib.hid hX
  have Hsz : Hid (t.size ≤ 9223372036854775807) := by have := hin.cap.2.2; simp only [D.t] at this; first | exact ha | exact hb | exact this
  clear hX ha hb hk
  have hcap := hin.cap
  simp only [D.l, D.c, D.t] at hcap
  simp only [D.val, D.k, D.n, D.t, D.A, D.l, D.c]
  have hmm : D.sizeL l ≤ m := by simp only [D.size] at hm; omega
  have hll := D.length_le_sizeL l
  obtain ⟨i0, hi0, hz0, hz1, hz2⟩ := info_parts infoD
  clear hm
  go_enter Try.func97, Try.ntmps97
  go_wp2_with fail
  go_loopw [42] (fun i wr => ∃ j : Nat, j ≤ l.length ∧ i = .int .i64 j ∧ ∃ (v : Value) (ds : List D), Hid (D.erL ds = D.swL sa sb (D.erL (l.take j))) ∧ ds.length ≤ j ∧ j ≤ ds.length ∧ GrowL (w.heap.size + 1 + 1 + 1) wr v ds ∧
      wr.cell? ⟨w.heap.size + 1 + 1, 0, none⟩ = some (.int .i64 k) ∧ wr.cell? ⟨w.heap.size + 1 + 1, 1, none⟩ = some (.int .i64 n) ∧ wr.cell? ⟨w.heap.size + 1 + 1, 2, none⟩ = some (.string t) ∧ wr.cell? ⟨w.heap.size + 1 + 1, 3, none⟩ = some v ∧
      wr.frozen? ⟨w.heap.size + 1 + 1, 3, none⟩ = false ∧ w.heap.size + 1 + 1 + 1 ≤ wr.heap.size ∧ Below (w.heap.size + 1 + 1) ((w.alloc (.cells #[.int .i64 k, .int .i64 n, .string t, .slice A l.length c] 25)).alloc (.cells #[.int .i64 0, .int .i64 0, .string ⟨#[]⟩, .slice none 0 0] 25)) wr) (fun i _ => l.length - (intOf i).toNat)
  case atStart =>
    have y := D.Box.new ((w.alloc (.cells #[.int .i64 k, .int .i64 n, .string t, .slice A l.length c] 25)).alloc (.cells #[.int .i64 0, .int .i64 0, .string ⟨#[]⟩, .slice none 0 0] 25)) (.mk k n t none 0 []) 25
    have yf := (D.Blk.new ((w.alloc (.cells #[.int .i64 k, .int .i64 n, .string t, .slice A l.length c] 25)).alloc (.cells #[.int .i64 0, .int .i64 0, .string ⟨#[]⟩, .slice none 0 0] 25)) 25 #[.int .i64 k, .int .i64 n, .string t, .slice none 0 0]).frozen 3
    simp only [World.size_alloc] at y yf
    obtain ⟨y0, y1, y2, y3⟩ := y
    exact ⟨0, Nat.zero_le _, rfl, .slice none 0 0, [], by simp [D.erL, D.swL, Hid], Nat.le_refl _, Nat.le_refl _, ⟨World.ownsRow_nil _ _ _ _, D.OwnL.nil_, by simp [Value.ownBlock]⟩, y0, y1, y2, y3, yf, by simp, (Below.refl _ _).alloc (by simp) _⟩
  case round =>
    obtain ⟨j, hj, rfl, v, ds, HE, hd1, hd2, hG, u0, u1, u2, u3, uf, hz, hbq⟩ := hrel
    have hb : Below w.heap.size w wr := (((Below.refl _ _).alloc (Nat.le_refl _) _).alloc (by simp) _).trans (hbq.mono (by omega))
    have hs2 := hb.size
    have HQ := Lib.hid hbq
    clear hbq
    by_cases hlt : j < l.length
    · obtain ⟨b, o, rfl, hblk, c0, c1, c2, c3, hix⟩ := (hin.below (hb.mono hB)).at_ (i := j) (x := l[j]) (List.getElem?_eq_getElem hlt)
      have hsz := D.sizeL_mem (l := l) (List.getElem_mem hlt)
      have x0 := D.Box.new wr l[j] 25
      obtain ⟨g0, g1, g2, g3⟩ := x0
      have al : (wr.alloc (.cells #[.int .i64 l[j].k, .int .i64 l[j].n, .string l[j].t, .slice l[j].A l[j].l.length l[j].c] 25)).cell? ⟨w.heap.size + 1 + 1, 3, none⟩ = some v := (World.cell?_alloc_lt wr _ _ (show w.heap.size + 1 + 1 < wr.heap.size by omega)).trans u3
      have ne1 : w.heap.size + 1 + 1 < wr.heap.size := by omega
      have hGa := hG.below ((Below.refl _ _).alloc (Nat.le_refl _) (.cells #[.int .i64 l[j].k, .int .i64 l[j].n, .string l[j].t, .slice l[j].A l[j].l.length l[j].c] 25))
      have hlen1 : ds.length ≤ 2000000 := by omega
      have hcol := D.cellsL_length ds
      go_wp2_with fail
      have hne1 : some (w.heap.size + 1 + 1) ≠ v.ownBlock := fun e => by have := hG.row.lt _ e.symm; omega
      have hne2 : some wr.heap.size ≠ v.ownBlock := fun e => by have := hG.row.lt _ e.symm; omega
      go_region_law
        (first
          | (go_simp; go_at_call 97; refine (ih l[j] B _ ?_ ?_ ?_ ?_).mono ?_; omega; omega; exact (hix.alloc (by omega) _).drew; (show B ≤ (wr.alloc _).heap.size); (simp; omega); rintro e w1 ⟨d, rfl, hde, hod, hb1⟩; unfold D.val; have hb1 := below_undrew hb1; have Hde := Lib.hid hde; clear hde; have hlt1 : wr.heap.size < (wr.alloc (.cells #[.int .i64 l[j].k, .int .i64 l[j].n, .string l[j].t, .slice l[j].A l[j].l.length l[j].c] 25)).heap.size := (by simp); have x0 := (hb1.cell (p := ⟨wr.heap.size, 0, none⟩) hlt1).trans g0; have x1 := (hb1.cell (p := ⟨wr.heap.size, 1, none⟩) hlt1).trans g1; have x2 := (hb1.cell (p := ⟨wr.heap.size, 2, none⟩) hlt1).trans g2; have x3 := (hb1.cell (p := ⟨wr.heap.size, 3, none⟩) hlt1).trans g3; have x4 := (hb1.cell (p := ⟨w.heap.size + 1 + 1, 3, none⟩) (by simp; omega)).trans al; have hG1 := hGa.below hb1; have hzz := hb1.size; have ne4 : w.heap.size + 1 + 1 < w1.heap.size := (by simp at hzz; omega); have xf := (hb1.frozen (p := ⟨w.heap.size + 1 + 1, 3, none⟩) (by simp; omega)).trans ((World.frozen?_alloc_old wr _ ⟨w.heap.size + 1 + 1, 3, none⟩ (by simp; omega)).trans uf))
          | ((refine step_append_lies _ (by rfl) _ _ _ (by rfl) (w.heap.size + 1 + 1 + 1) 25 i0 _ 4 56 Try.underlying23 hi0 hz0 hz1 hz2 rfl (by omega) v ds.length (D.cellsL ds) (by rfl) ?_ ⟨w1.heap.size, 0, none⟩ 1 1 d.cells (by rfl) (by rfl) ?_ (cells_one d) (by omega) ?_ ?_ ?_ (w1.heap.size + 1) ?_ ?_); exact (hG1.row.alloc _); exact (show ∀ q u, (#[Value.int .i64 d.k, .int .i64 d.n, .string d.t, .slice d.A d.l.length d.c].toList)[q]? = some u → _ from World.news_of_block (heap_alloc_new _ _)); (unfold maxLen; omega); omega; (simp at hzz ⊢; omega); simp; intro g cap w3 hown3 hgr hat hlt3; have y4 := (hgr.cell_far ⟨w.heap.size + 1 + 1, 3, none⟩ (by simp at hzz ⊢; omega) hne1).trans ((World.cell?_alloc_lt w1 _ ⟨w.heap.size + 1 + 1, 3, none⟩ (by simp at hzz ⊢; omega)).trans x4); have y0 := (hgr.cell_far ⟨wr.heap.size, 0, none⟩ (by simp at hzz ⊢; omega) hne2).trans ((World.cell?_alloc_lt w1 _ ⟨wr.heap.size, 0, none⟩ (by simp at hzz ⊢; omega)).trans x0); have y1 := (hgr.cell_far ⟨wr.heap.size, 1, none⟩ (by simp at hzz ⊢; omega) hne2).trans ((World.cell?_alloc_lt w1 _ ⟨wr.heap.size, 1, none⟩ (by simp at hzz ⊢; omega)).trans x1); have y2 := (hgr.cell_far ⟨wr.heap.size, 2, none⟩ (by simp at hzz ⊢; omega) hne2).trans ((World.cell?_alloc_lt w1 _ ⟨wr.heap.size, 2, none⟩ (by simp at hzz ⊢; omega)).trans x2); have y3 := (hgr.cell_far ⟨wr.heap.size, 3, none⟩ (by simp at hzz ⊢; omega) hne2).trans ((World.cell?_alloc_lt w1 _ ⟨wr.heap.size, 3, none⟩ (by simp at hzz ⊢; omega)).trans x3); have yf := (hgr.frozen_far ⟨w.heap.size + 1 + 1, 3, none⟩ (by simp at hzz ⊢; omega) hne1).trans ((World.frozen?_alloc_old w1 _ ⟨w.heap.size + 1 + 1, 3, none⟩ (by simp at hzz ⊢; omega)).trans xf)))
      all_goals
        have hR := app_round (out := w.heap.size + 1 + 1) hG hz (Nat.le_refl _) HQ.out (by simpa using hod) (by simpa using hb1) hown3 hgr hat hlt3 u3
        have HR := Lib.hid hR
        clear hR hb1 hgr hown3 hG1 hGa
        go_wp2_with fail
        obtain ⟨r1, r2, r3, r4, r5, r6⟩ := HR.out
        refine ⟨⟨j + 1, by omega, by go_num, .slice (some ⟨g, 0, none⟩) (ds.length + 1) cap, ds ++ [d], ?_, by simp; omega, by simp; omega, r1, (r2 0 (by omega)).trans u0, (r2 1 (by omega)).trans u1, (r2 2 (by omega)).trans u2, r3, (r4 3).trans uf, by omega, r6⟩, by simp [intOf]; omega⟩
        show _ = _
        rw [List.take_succ_eq_append_getElem hlt, D.erL_append, D.erL_append, HE.out, D.swL_append]
        simp [D.erL, D.swL, Hde.out]
    · have e1 : l.take j = l := List.take_of_length_le (by omega)
      have he := HE.out
      rw [e1] at he
      have He := Lib.hid he
      clear e1 he
      have zr := (D.Box.new (w.alloc (.cells #[.int .i64 k, .int .i64 n, .string t, .slice A l.length c] 25)) (.mk 0 0 ⟨#[]⟩ none 0 []) 25)
      have zf := (D.Blk.new (w.alloc (.cells #[.int .i64 k, .int .i64 n, .string t, .slice A l.length c] 25)) 25 #[.int .i64 0, .int .i64 0, .string ⟨#[]⟩, .slice none 0 0])
      simp only [World.size_alloc] at zr zf
      obtain ⟨z0, z1, z2, z3⟩ := zr.below HQ.out (by omega)
      have zf := zf.below HQ.out (by omega)
      have zf0 := zf.frozen 0
      have zf1 := zf.frozen 1
      have zf2 := zf.frozen 2
      have zf3 := zf.frozen 3
      simp only [D.k, D.n, D.t, D.A, D.l, D.c] at z0 z1 z2 z3
      have hG0 := hG
      obtain ⟨hrow, hown, hap⟩ := hG
      rcases hrow with ⟨hr1, ⟨rfl, hr2⟩ | ⟨g, cap, cur, rfl, hr2, hr3, hr4, hr5, hr6, hr7⟩⟩
      · have hds : ds = [] := List.eq_nil_of_length_eq_zero hr2
        subst hds
        go_wp2_with fail
        refine bodyPost_ret (v := .agg #[.int .i64 k, .int .i64 n, .string t, .slice none 0 0]) (by simp [results, Try.results97, go_sem, z0, z1, z2, z3]) rfl ⟨.mk k n t none 0 [], rfl, ?_, ?_, ?_⟩
        · simp only [D.er, D.sw]; rw [← He.out, HX.out]
        · exact D.Own.no_items (Nat.zero_le _) Hsz.out
        · exact (((hb.setCell (by simp) _).setCell (by simp) _).setCell (by simp) _).setCell (by simp) _
      · have hcells := hG0.row.cells (g := g) rfl
        have hblk : D.Blk wr g 25 cur := hr3
        have hglt := hblk.lt
        go_wp2_with fail
        refine bodyPost_ret (v := .agg #[.int .i64 k, .int .i64 n, .string t, .slice (some ⟨g, 0, none⟩) ds.length cap]) (by simp [results, Try.results97, go_sem, z0, z1, z2, z3]) rfl ⟨.mk k n t (some ⟨g, 0, none⟩) cap ds, rfl, ?_, ?_, ?_⟩
        · simp only [D.er, D.sw, He.out, HX.out]
        · have h1 : (D.mk k n t (some ⟨g, 0, none⟩) cap ds).Own (w.heap.size + 1 + 1 + 1) wr.heap.size wr := D.Own.of_row hown ⟨hr4, hr5, Hsz.out⟩ (hap g rfl) hr2 hglt (fun o => hblk.frozen o) (fun j u hu => by
            have := hcells j u hu
            have e : (⟨g, 0, none⟩ : Addr).add j = ⟨g, j, none⟩ := by unfold Addr.add; split <;> simp_all
            rwa [e] at this)
          simp only [World.size_setCell]
          exact ((((h1.far (by simp <;> omega) _).far (by simp <;> omega) _).far (by simp <;> omega) _).far (by simp <;> omega) _).wide (by omega) (Nat.le_refl _)
        · exact (((hb.setCell (by simp) _).setCell (by simp) _).setCell (by simp) _).setCell (by simp) _

theorem l1Swap_any (sa sb : ByteArray) (ha : sa.size ≤ 9223372036854775807) (hb : sb.size ≤ 9223372036854775807) : ∀ m, SwOk sa sb m := by
  intro m
  induction m with
  | zero => intro d B w h; have := d.size_pos; omega
  | succ m ih =>
    intro d B w hm hm2 hin hB
    obtain ⟨k, n, t, A, c, l⟩ := d
    by_cases hk : k = 1
    · by_cases ht : t.toList = sa.toList
      · exact l1Swap_sw1 sa sb ha hb m ih k n t A c l B w hm hm2 hin hB hk ht
      · by_cases ht2 : t.toList = sb.toList
        · exact l1Swap_sw2 sa sb ha hb m ih k n t A c l B w hm hm2 hin hB hk ht ht2
        · exact l1Swap_sw3 sa sb ha hb m ih k n t A c l B w hm hm2 hin hB hk ht ht2
    · exact l1Swap_sw4 sa sb ha hb m ih k n t A c l B w hm hm2 hin hB hk
end Go.Proofs.Ytiopophoioiafaa
