/-
  The candidates of an identifier: a row of the list's own elements.
-/
import Derived.Test.YtikjipkhebedfaaAddM
import Derived.Test.YtikjipkhebedfaaAreW
import Derived.Test.YtikjipkhebedfaaSIdent
namespace Go.Proofs.Ytikjipkhebedfaa
open Go.RowKit
namespace Bd
def fitI (d : S) (b : Bd) : Bool := (b.t.toList == d.t.toList) && subTop b.s d.s
def fitM (d : S) (b : Bd) : Bool := (b.t.toList == d.t.toList) && subL b.s d.s
end Bd
theorem filter_step {α : Type} (p : α → Bool) (l : List α) (j : Nat) (h : j < l.length) : (l.take (j + 1)).filter p = (l.take j).filter p ++ (if p l[j] then [l[j]] else []) := by
  rw [List.take_succ_eq_append_getElem h, List.filter_append]
  congr 1
  cases hp : p l[j] <;> simp [hp]
theorem filter_len {α : Type} (p : α → Bool) (l : List α) (j : Nat) : ((l.take j).filter p).length ≤ j := Nat.le_trans (List.length_filter_le _ _) (by rw [List.length_take]; omega)
theorem grow_below {W1 w w5 : World} {base : Nat} {T : TypeId} {v : Value} {n : Nat} {xs : List Value} (h0 : base ≤ W1.heap.size) (hr : w.ownsRow base T 4 v n xs) (hb : Below base W1 w) (hgr : w.grownBy w5 v.ownBlock) : Below base W1 w5 := by
  have hz := hb.size
  exact ⟨hgr.os.trans hb.os, hgr.tape.trans hb.tape, hgr.output.trans hb.output, Nat.le_trans hb.size hgr.size, fun k hk => (hgr.block k (by omega) (fun e => by have := (hr.lt k e.symm).1; omega)).trans (hb.block k hk)⟩
theorem lin_of_row {w : World} {base : Nat} {A : Option Addr} {c : Nat} {l : List Bd} (h : w.ownsRow base 43 4 (.slice A l.length c) l.length (Bd.E.cellsL l)) (ha : ∀ x ∈ l, x.In w w.heap.size) : Bd.E.LIn w w.heap.size A c l := by
  rcases h.2 with ⟨e, h0⟩ | ⟨g, cap, cur, e, hb, hg, hn, hc, hs, ht⟩
  · have : l = [] := List.length_eq_zero_iff.1 h0
    subst this
    obtain ⟨rfl, _, rfl⟩ := Value.slice.inj e
    exact Elem.LIn.nil_ (by omega) (fun _ => rfl)
  · obtain ⟨rfl, _, rfl⟩ := Value.slice.inj e
    refine ⟨⟨hn, hc⟩, by simp, fun _ => ⟨g, 0, rfl, (Array.getElem?_eq_some_iff.1 hg).1, fun j u hu => ?_⟩, ha⟩
    rw [Nat.zero_add, cell_of_row w g j cur _ (0, 0) hg]
    have h1 : (cur.toList.take (l.length * 4))[j]? = some u := by rw [ht]; exact hu
    rw [List.getElem?_take] at h1
    split at h1
    · simpa using h1
    · cases h1

set_option maxRecDepth 100000 in
set_option maxHeartbeats 4000000 in
theorem candI_any (A : Option Addr) (c : Nat) (l : List Bd) (d : S) (B : Nat) (w : World) (hin : Bd.E.LIn w B A c l) (hd : d.In w B) (hB : B ≤ w.heap.size) (hs : d.s.length ≤ 2000000) (hll : l.length ≤ 2000000) :
    Calls Try.prog 88 #[.slice A l.length c, d.val] w fun e w' => ∃ (A' : Option Addr) (c' : Nat), e = .returned (.slice A' (l.filter (Bd.fitI d)).length c') ∧ Bd.E.LIn w' w'.heap.size A' c' (l.filter (Bd.fitI d)) ∧ Below w.heap.size w w' := by
  have hcap := hin.cap
  obtain ⟨i0, hi, hz0, hz1, hz2⟩ := info_parts infoB
  obtain ⟨W1, hW1⟩ : ∃ W1, W1 = w.alloc (.cells #[.int .i64 d.k, .int .i64 d.n, .string d.t, .slice d.sa d.s.length d.sc, .slice d.A d.l.length d.c] 57) := ⟨_, rfl⟩
  have z1 : w.heap.size + 1 ≤ W1.heap.size := by rw [hW1]; simp
  have Z1 : Hid (w.heap.size + 1 = W1.heap.size) := by rw [hW1]; simp [Hid]
  have B1 : Below w.heap.size w W1 := by rw [hW1]; exact (Below.refl _ _).alloc (Nat.le_refl _) _
  have x0 : S.Box W1 w.heap.size d := by rw [hW1]; exact S.Box.new w d _
  have r0 : W1.ownsRow W1.heap.size 43 4 (.slice none 0 0) ([] : List Bd).length (Bd.E.cellsL []) := ⟨by simp [Elem.cellsL], .inl ⟨rfl, rfl⟩⟩
  unfold S.val
  go_enter Try.func88, Try.ntmps88
  go_wp2_with fail
  rw [← hW1]
  clear hW1
  go_loopw [5, 10] (fun v i wr => ∃ (j : Nat) (A' : Option Addr) (c' : Nat) (ds : List Bd), v = .slice A' ds.length c' ∧ j ≤ l.length ∧ i = .int .i64 j ∧ Hid (ds = (l.take j).filter (Bd.fitI d)) ∧ ds.length ≤ j ∧ wr.ownsRow W1.heap.size 43 4 (.slice A' ds.length c') ds.length (Bd.E.cellsL ds) ∧ Below W1.heap.size W1 wr) (fun _ i _ => l.length - (intOf i).toNat)
  case atStart => exact ⟨0, none, 0, [], rfl, Nat.zero_le _, rfl, by simp [Hid], Nat.le_refl _, r0, Below.refl _ _⟩
  case round =>
    obtain ⟨j, A', c', ds, rfl, hj, rfl, HE, hdl, r1, hb⟩ := hrel
    have hz := hb.size
    by_cases hlt : j < l.length
    · obtain ⟨b, o, rfl, hblk, c0, c1, c2, c3, hix⟩ := Bd.at_ (hin.below ((B1.trans (hb.mono (by omega))).mono hB)) (i := j) (x := l[j]) (List.getElem?_eq_getElem hlt)
      obtain ⟨W2, hW2⟩ : ∃ W2, W2 = wr.alloc (.cells #[.string l[j].t, .slice l[j].sa l[j].s.length l[j].sc, .int .i64 l[j].k, .int .i64 l[j].n] 43) := ⟨_, rfl⟩
      have bA : Below wr.heap.size wr W2 := by rw [hW2]; exact (Below.refl _ _).alloc (Nat.le_refl _) _
      have z2 : wr.heap.size + 1 ≤ W2.heap.size := by rw [hW2]; simp
      have lt2 : wr.heap.size < W2.heap.size := by omega
      have y0 : Bd.Box W2 wr.heap.size l[j] := by rw [hW2]; exact Bd.Box.new wr l[j] _
      obtain ⟨d0, d1, d2, d3⟩ := y0
      have hix2 := hix.2.below (bA.mono (by omega))
      have r2 := row_below r1 bA
      have bw2 := hb.trans (bA.mono hz)
      have hid2 := (hd.below ((B1.trans (bw2.mono (by omega))).mono hB)).scopes
      obtain ⟨f0, f1, f2, f3, f4⟩ := S.Box.below x0 bw2 (by omega)
      have g2 := f2
      have g3 := f3
      rw [hW2] at g2 g3
      clear r1 hix
      cases hq : (l[j].t.toList == d.t.toList)
      · clear d0 d1 d2 d3
        have HE2 : Hid (ds = (l.take (j + 1)).filter (Bd.fitI d)) := by
          show _ = _
          rw [filter_step _ _ _ hlt, if_neg (by rw [Bd.fitI, hq, Bool.false_and]; decide), List.append_nil]; exact HE.out
        go_wp2_with fail
        rw [← hW2]
        exact ⟨⟨j + 1, A', c', ds, rfl, by omega, by go_num, HE2, by omega, r2, bw2⟩, by simp [intOf]; omega⟩
      · go_wp2_with fail
        rw [← hW2]
        clear hW2
        refine (implSub_any l[j].sa l[j].sc l[j].s d.sa d.sc d.s B _ hix2 hid2 (by omega) hs).mono ?_
        rintro e w3 ⟨rfl, hb3⟩
        cases hp : subTop l[j].s d.s
        · have HP := Lib.hid hp
          clear d0 d1 d2 d3
          have HE2 : Hid (ds = (l.take (j + 1)).filter (Bd.fitI d)) := by
            show _ = _
            rw [filter_step _ _ _ hlt, if_neg (by rw [Bd.fitI, hq, hp, Bool.true_and]; decide), List.append_nil]; exact HE.out
          go_wp2_with fail
          exact ⟨⟨j + 1, A', c', ds, rfl, by omega, by go_num, HE2, by omega, (row_below r2 hb3), bw2.trans (hb3.mono (by omega))⟩, by simp [intOf]; omega⟩
        · have z3 := hb3.size
          have e0 := (hb3.cell (p := ⟨wr.heap.size, 0, none⟩) lt2).trans d0
          have e1 := (hb3.cell (p := ⟨wr.heap.size, 1, none⟩) lt2).trans d1
          have e2 := (hb3.cell (p := ⟨wr.heap.size, 2, none⟩) lt2).trans d2
          have e3 := (hb3.cell (p := ⟨wr.heap.size, 3, none⟩) lt2).trans d3
          have r3 := row_below r2 hb3
          have bw3 := bw2.trans (hb3.mono (by omega))
          clear d0 d1 d2 d3 hb3
          go_wp2_with (at_builtin; refine wpList_append_lies _ rfl (.tmp 26) (.tmp 28) 39 rfl W1.heap.size 43 i0 (.agg #[.string ⟨#[]⟩, .slice none 0 0, .int .i64 0, .int .i64 0]) 4 56 Try.underlying39 hi hz0 hz1 hz2 rfl (by decide) (.slice A' ds.length c') ds.length (Bd.E.cellsL ds) rfl (row_below r3 ((Below.refl _ _).alloc (Nat.le_refl _) _)) ⟨_, 0, none⟩ 1 1 (Bd.cells l[j]) rfl rfl (World.news_of_block (heap_alloc_new _ _)) (Bd.E.one l[j]) (by decide) (by unfold maxLen; omega) (by omega) (by simp; omega) _ rfl ?_)
          intro g cap w5 hown5 hgr5 hat5 hlt5
          have bw5 := grow_below (Nat.le_refl _) (row_below r3 ((Below.refl _ _).alloc (Nat.le_refl _) (.cells #[.string l[j].t, .slice l[j].sa l[j].s.length l[j].sc, .int .i64 l[j].k, .int .i64 l[j].n] 43))) (bw3.alloc (by omega) _) hgr5
          have hlen : (ds ++ [l[j]]).length = ds.length + 1 := by simp
          have HE2 : Hid (ds ++ [l[j]] = (l.take (j + 1)).filter (Bd.fitI d)) := by
            show _ = _
            rw [filter_step _ _ _ hlt, if_pos (by rw [Bd.fitI, hq, hp]; rfl), HE.out]
          have h5 : w5.ownsRow W1.heap.size 43 4 (.slice (some ⟨g, 0, none⟩) (ds ++ [l[j]]).length cap) (ds ++ [l[j]]).length (Bd.E.cellsL (ds ++ [l[j]])) := by rw [List.length_append, Elem.cellsL_append, Elem.cellsL_one]; exact hown5
          have H5 := Lib.hid h5
          clear h5 hown5 hgr5 hat5 r2 r3 bw2 bw3 e0 e1 e2 e3
          go_wp2_with fail
          exact ⟨⟨j + 1, some ⟨g, 0, none⟩, cap, ds ++ [l[j]], by rw [hlen], by omega, by go_num, HE2, by rw [hlen]; omega, H5.out, bw5⟩, by simp [intOf]; omega⟩
    · have hj' : j = l.length := by omega
      subst hj'
      have he : ds = l.filter (Bd.fitI d) := by have := HE.out; rwa [List.take_length] at this
      subst he
      have hL := lin_of_row r1 (fun x hx => Bd.In.more (Elem.below_ (E := Bd.E) (hin.all x (List.mem_filter.1 hx).1) ((B1.trans (hb.mono (by omega))).mono hB)) (by omega))
      have HL := Lib.hid hL
      clear hL r1
      go_wp2_with fail
      go_ret
      exact ⟨A', c', rfl, HL.out, B1.trans (hb.mono (by omega))⟩

set_option maxRecDepth 100000 in
set_option maxHeartbeats 4000000 in
theorem candM_any (A : Option Addr) (c : Nat) (l : List Bd) (d : S) (B : Nat) (w : World) (hin : Bd.E.LIn w B A c l) (hd : d.In w B) (hB : B ≤ w.heap.size) (hs : d.s.length ≤ 2000000) (hll : l.length ≤ 2000000) :
    Calls Try.prog 85 #[.slice A l.length c, d.val] w fun e w' => ∃ (A' : Option Addr) (c' : Nat), e = .returned (.slice A' (l.filter (Bd.fitM d)).length c') ∧ Bd.E.LIn w' w'.heap.size A' c' (l.filter (Bd.fitM d)) ∧ Below w.heap.size w w' := by
  have hcap := hin.cap
  obtain ⟨i0, hi, hz0, hz1, hz2⟩ := info_parts infoB
  obtain ⟨W1, hW1⟩ : ∃ W1, W1 = w.alloc (.cells #[.int .i64 d.k, .int .i64 d.n, .string d.t, .slice d.sa d.s.length d.sc, .slice d.A d.l.length d.c] 57) := ⟨_, rfl⟩
  have z1 : w.heap.size + 1 ≤ W1.heap.size := by rw [hW1]; simp
  have Z1 : Hid (w.heap.size + 1 = W1.heap.size) := by rw [hW1]; simp [Hid]
  have B1 : Below w.heap.size w W1 := by rw [hW1]; exact (Below.refl _ _).alloc (Nat.le_refl _) _
  have x0 : S.Box W1 w.heap.size d := by rw [hW1]; exact S.Box.new w d _
  have r0 : (W1.alloc (.cells #[] 43)).ownsRow W1.heap.size 43 4 (.slice (some ⟨W1.heap.size, 0, none⟩) 0 0) ([] : List Bd).length (Bd.E.cellsL []) := World.ownsRow_made W1 #[] 0 (Nat.le_refl _) (by unfold maxLen; omega) (by simp)
  unfold S.val
  go_enter Try.func85, Try.ntmps85
  go_wp2_with fail
  rw [← hW1]
  clear hW1
  go_loopw [5, 11] (fun v i wr => ∃ (j : Nat) (A' : Option Addr) (c' : Nat) (ds : List Bd), v = .slice A' ds.length c' ∧ j ≤ l.length ∧ i = .int .i64 j ∧ Hid (ds = (l.take j).filter (Bd.fitM d)) ∧ ds.length ≤ j ∧ wr.ownsRow W1.heap.size 43 4 (.slice A' ds.length c') ds.length (Bd.E.cellsL ds) ∧ Below W1.heap.size W1 wr) (fun _ i _ => l.length - (intOf i).toNat)
  case atStart => exact ⟨0, (some ⟨W1.heap.size, 0, none⟩), 0, [], by rw [Z1.out]; rfl, Nat.zero_le _, rfl, by simp [Hid], Nat.le_refl _, r0, (Below.refl _ _).alloc (Nat.le_refl _) _⟩
  case round =>
    obtain ⟨j, A', c', ds, rfl, hj, rfl, HE, hdl, r1, hb⟩ := hrel
    have hz := hb.size
    by_cases hlt : j < l.length
    · obtain ⟨b, o, rfl, hblk, c0, c1, c2, c3, hix⟩ := Bd.at_ (hin.below ((B1.trans (hb.mono (by omega))).mono hB)) (i := j) (x := l[j]) (List.getElem?_eq_getElem hlt)
      obtain ⟨W2, hW2⟩ : ∃ W2, W2 = wr.alloc (.cells #[.string l[j].t, .slice l[j].sa l[j].s.length l[j].sc, .int .i64 l[j].k, .int .i64 l[j].n] 43) := ⟨_, rfl⟩
      have bA : Below wr.heap.size wr W2 := by rw [hW2]; exact (Below.refl _ _).alloc (Nat.le_refl _) _
      have z2 : wr.heap.size + 1 ≤ W2.heap.size := by rw [hW2]; simp
      have lt2 : wr.heap.size < W2.heap.size := by omega
      have y0 : Bd.Box W2 wr.heap.size l[j] := by rw [hW2]; exact Bd.Box.new wr l[j] _
      obtain ⟨d0, d1, d2, d3⟩ := y0
      have hix2 := hix.2.below (bA.mono (by omega))
      have r2 := row_below r1 bA
      have bw2 := hb.trans (bA.mono hz)
      have hid2 := (hd.below ((B1.trans (bw2.mono (by omega))).mono hB)).scopes
      obtain ⟨f0, f1, f2, f3, f4⟩ := S.Box.below x0 bw2 (by omega)
      have g2 := f2
      have g3 := f3
      rw [hW2] at g2 g3
      clear r1 hix
      cases hq : (l[j].t.toList == d.t.toList)
      · clear d0 d1 d2 d3
        have HE2 : Hid (ds = (l.take (j + 1)).filter (Bd.fitM d)) := by
          show _ = _
          rw [filter_step _ _ _ hlt, if_neg (by rw [Bd.fitM, hq, Bool.false_and]; decide), List.append_nil]; exact HE.out
        go_wp2_with fail
        rw [← hW2]
        exact ⟨⟨j + 1, A', c', ds, rfl, by omega, by go_num, HE2, by omega, r2, bw2⟩, by simp [intOf]; omega⟩
      · go_wp2_with fail
        rw [← hW2]
        clear hW2
        refine (l2Subset_any l[j].sa l[j].sc l[j].s d.sa d.sc d.s B _ hix2 hid2).mono ?_
        rintro e w3 ⟨rfl, rfl⟩
        cases hp : subL l[j].s d.s
        · have HP := Lib.hid hp
          clear d0 d1 d2 d3
          have HE2 : Hid (ds = (l.take (j + 1)).filter (Bd.fitM d)) := by
            show _ = _
            rw [filter_step _ _ _ hlt, if_neg (by rw [Bd.fitM, hq, hp, Bool.true_and]; decide), List.append_nil]; exact HE.out
          go_wp2_with fail
          exact ⟨⟨j + 1, A', c', ds, rfl, by omega, by go_num, HE2, by omega, r2, bw2⟩, by simp [intOf]; omega⟩
        · have z3 : w3.heap.size ≤ w3.heap.size := Nat.le_refl _
          have e0 := d0
          have e1 := d1
          have e2 := d2
          have e3 := d3
          have r3 := r2
          have bw3 := bw2
          clear d0 d1 d2 d3
          go_wp2_with (at_builtin; refine wpList_append_lies _ rfl (.tmp 27) (.tmp 29) 39 rfl W1.heap.size 43 i0 (.agg #[.string ⟨#[]⟩, .slice none 0 0, .int .i64 0, .int .i64 0]) 4 56 Try.underlying39 hi hz0 hz1 hz2 rfl (by decide) (.slice A' ds.length c') ds.length (Bd.E.cellsL ds) rfl (row_below r3 ((Below.refl _ _).alloc (Nat.le_refl _) _)) ⟨_, 0, none⟩ 1 1 (Bd.cells l[j]) rfl rfl (World.news_of_block (heap_alloc_new _ _)) (Bd.E.one l[j]) (by decide) (by unfold maxLen; omega) (by omega) (by simp; omega) _ rfl ?_)
          intro g cap w5 hown5 hgr5 hat5 hlt5
          have bw5 := grow_below (Nat.le_refl _) (row_below r3 ((Below.refl _ _).alloc (Nat.le_refl _) (.cells #[.string l[j].t, .slice l[j].sa l[j].s.length l[j].sc, .int .i64 l[j].k, .int .i64 l[j].n] 43))) (bw3.alloc (by omega) _) hgr5
          have hlen : (ds ++ [l[j]]).length = ds.length + 1 := by simp
          have HE2 : Hid (ds ++ [l[j]] = (l.take (j + 1)).filter (Bd.fitM d)) := by
            show _ = _
            rw [filter_step _ _ _ hlt, if_pos (by rw [Bd.fitM, hq, hp]; rfl), HE.out]
          have h5 : w5.ownsRow W1.heap.size 43 4 (.slice (some ⟨g, 0, none⟩) (ds ++ [l[j]]).length cap) (ds ++ [l[j]]).length (Bd.E.cellsL (ds ++ [l[j]])) := by rw [List.length_append, Elem.cellsL_append, Elem.cellsL_one]; exact hown5
          have H5 := Lib.hid h5
          clear h5 hown5 hgr5 hat5 r2 r3 bw2 bw3 e0 e1 e2 e3
          go_wp2_with fail
          exact ⟨⟨j + 1, some ⟨g, 0, none⟩, cap, ds ++ [l[j]], by rw [hlen], by omega, by go_num, HE2, by rw [hlen]; omega, H5.out, bw5⟩, by simp [intOf]; omega⟩
    · have hj' : j = l.length := by omega
      subst hj'
      have he : ds = l.filter (Bd.fitM d) := by have := HE.out; rwa [List.take_length] at this
      subst he
      have hL := lin_of_row r1 (fun x hx => Bd.In.more (Elem.below_ (E := Bd.E) (hin.all x (List.mem_filter.1 hx).1) ((B1.trans (hb.mono (by omega))).mono hB)) (by omega))
      have HL := Lib.hid hL
      clear hL r1
      go_wp2_with fail
      go_ret
      exact ⟨A', c', rfl, HL.out, B1.trans (hb.mono (by omega))⟩
end Go.Proofs.Ytikjipkhebedfaa
