/-
  One binding more: the model's l3Add and AddBinding.
-/
import Derived.Test.YtikjipkhebedfaaCpM
import Derived.Test.YtikjipkhebedfaaAddW
namespace Go.Proofs.Ytikjipkhebedfaa
open Go.RowKit

/-- Returned: a row of one binding of the call's own. -/
def RetB1 (x : Bd) (w : World) (e : Ending) (w' : World) : Prop := ∃ (g c : Nat) (d : Bd), e = .returned (.slice (some ⟨g, 0, none⟩) 1 c) ∧ d.er = x ∧ Bd.E.Own w.heap.size w'.heap.size w' d ∧ g < w'.heap.size ∧ (∀ j u, d.cells[j]? = some u → w'.cell? ((⟨g, 0, none⟩ : Addr).add j) = some u) ∧ Below w.heap.size w w'
theorem lin_one {w : World} {b : Bd} {B : Nat} (hib : b.In w B) (hB : B ≤ w.heap.size) : Bd.E.LIn (w.alloc (.cells #[.string b.t, .slice b.sa b.s.length b.sc, .int .i64 b.k, .int .i64 b.n] 43)) (w.alloc (.cells #[.string b.t, .slice b.sa b.s.length b.sc, .int .i64 b.k, .int .i64 b.n] 43)).heap.size (some ⟨w.heap.size, 0, none⟩) 1 [b] := by
  refine ⟨⟨by simp, by omega⟩, by simp, fun _ => ⟨w.heap.size, 0, rfl, by simp, fun j u hu => ?_⟩, fun x hx => ?_⟩
  · have hu : b.cells[j]? = some u := by rw [Elem.cellsL_one] at hu; exact hu
    rw [Nat.zero_add, cell_of_row _ _ _ _ _ _ (heap_alloc_new w _)]
    match j, hu with
    | 0, hu => exact hu
    | 1, hu => exact hu
    | 2, hu => exact hu
    | 3, hu => exact hu
    | j + 4, hu => simp [Bd.cells] at hu
  · obtain rfl := List.mem_singleton.1 hx
    exact (hib.alloc hB _).more (by simp; omega)
theorem l3Copy_one (g c : Nat) (b : Bd) (B : Nat) (w : World) (hs : b.bulk ≤ 2000000 - 1) (hin : Bd.E.LIn w B (some ⟨g, 0, none⟩) c [b]) (hB : B ≤ w.heap.size) :
    Calls Try.prog 73 #[.slice (some ⟨g, 0, none⟩) 1 c] w (RetB1 b.er w) := by
  refine (l3Copy_any (some ⟨g, 0, none⟩) c [b] B w (by simp [Bd.bulkL]; omega) hin hB).mono ?_
  rintro e w1 ⟨A', c', ds, rfl, hde, r1, r2, r3, hb1⟩
  have hl : ds.length = 1 := by rw [← Bd.erL_length ds, hde]; simp [Bd.erL]
  obtain ⟨d, rfl⟩ := List.length_eq_one_iff.1 hl
  have hd : d.er = b.er := by simpa [Bd.erL] using hde
  rcases r1.2 with ⟨h, h0⟩ | ⟨q, cap, cur, h, hb, hg, hn, hc, hsz, ht⟩
  · simp at h0
  · injection h with ha _ hcap
    subst ha
    refine ⟨q, c', d, rfl, hd, ⟨r2.inn d (by simp), fun k hk => r2.lo_ k (by rw [Elem.blksL_one]; exact hk), by have := r2.nd; rwa [Elem.blksL_one] at this, fun k hk => r2.fr k (by rw [Elem.blksL_one]; exact hk)⟩, (Array.getElem?_eq_some_iff.1 hg).1, fun j u hu => ?_, hb1⟩
    have e : (⟨q, 0, none⟩ : Addr).add j = ⟨q, j, none⟩ := by unfold Addr.add; split <;> simp_all
    rw [e, cell_of_row _ q j cur _ (0, 0) hg]
    have h1 : (cur.toList.take (1 * 4))[j]? = some u := by
      have : (cur.toList.take ([d].length * 4)) = Bd.E.cellsL [d] := ht
      rw [Elem.cellsL_one] at this
      rw [show 1 * 4 = [d].length * 4 by rfl, this]; exact hu
    rw [List.getElem?_take] at h1
    split at h1
    · simpa using h1
    · cases h1
theorem news_below {w w' : World} {B g : Nat} {xs : List Value} (h : ∀ j u, xs[j]? = some u → w.cell? ((⟨g, 0, none⟩ : Addr).add j) = some u) (hb : Below B w w') (hg : g < B) : ∀ j u, xs[j]? = some u → w'.cell? ((⟨g, 0, none⟩ : Addr).add j) = some u := by
  intro j u hu
  have e : (⟨g, 0, none⟩ : Addr).add j = ⟨g, j, none⟩ := by unfold Addr.add; split <;> simp_all
  rw [← h j u hu, e]
  exact hb.cell hg

set_option maxRecDepth 100000 in
set_option maxHeartbeats 1000000 in
theorem l3Add_no (A : Option Addr) (c : Nat) (l : List Bd) (b : Bd) (B : Nat) (w : World) (hbad : 1000 ≤ l.length ∨ Bd.clash l b = true) (hin : Bd.E.LIn w B A c l) (hib : b.In w B) (hB : B ≤ w.heap.size) :
    Calls Try.prog 74 #[.slice A l.length c, b.val] w fun e w' => e = .returned (.tuple #[.slice A l.length c, .bool false]) ∧ Below w.heap.size w w' := by
  have hcap := hin.cap
  obtain ⟨W1, hW1⟩ : ∃ W1, W1 = w.alloc (.cells #[.string b.t, .slice b.sa b.s.length b.sc, .int .i64 b.k, .int .i64 b.n] 43) := ⟨_, rfl⟩
  have z1 : W1.heap.size = w.heap.size + 1 := by rw [hW1]; simp
  have B1 : Below w.heap.size w W1 := by rw [hW1]; exact (Below.refl _ _).alloc (Nat.le_refl _) _
  have x0 : Bd.Box W1 w.heap.size b := by rw [hW1]; exact Bd.Box.new w b _
  obtain ⟨a0, a1, a2, a3⟩ := x0
  have hin2 := hin.below (B1.mono hB)
  have hib2 := hib.below (B1.mono hB)
  unfold Bd.val
  by_cases hl : 1000 ≤ l.length
  · clear hbad
    go_enter Try.func74, Try.ntmps74
    go_wp2_with fail
    rw [← hW1]
    clear hW1
    go_wp2_with fail
    refine bodyPost_ret (v := .tuple #[.slice A l.length c, .bool false]) (by simp [results, Try.results74, go_sem]) rfl ⟨rfl, B1⟩
  · have hc : Bd.clash l b = true := hbad.resolve_left hl
    have HC := Lib.hid hc
    clear hbad hc
    go_enter Try.func74, Try.ntmps74
    go_wp2_with fail
    rw [← hW1]
    clear hW1
    refine (clash_any A c l b B _ hin2 hib2 (by omega)).mono ?_
    rintro e w1 ⟨rfl, hb1⟩
    rw [HC.out]
    have bb := B1.trans (hb1.mono (by omega))
    go_wp2_with fail
    refine bodyPost_ret (v := .tuple #[.slice A l.length c, .bool false]) (by simp [results, Try.results74, go_sem]) rfl ⟨rfl, bb⟩

/-- The list's copy stands in wa. -/
structure St1 (W1 wa : World) (A : Option Addr) (c : Nat) (ds : List Bd) : Prop where
  row : wa.ownsRow W1.heap.size 43 4 (.slice A ds.length c) ds.length (Bd.E.cellsL ds)
  own : Bd.E.OwnL W1.heap.size wa.heap.size wa ds
  ap : ∀ g, (Value.slice A ds.length c).ownBlock = some g → g ∉ Bd.E.blksL ds
  b : Below W1.heap.size W1 wa
theorem St1.mk0 {W1 w0 wa : World} {A : Option Addr} {c : Nat} {ds : List Bd} (h0 : Below W1.heap.size W1 w0) (r1 : wa.ownsRow w0.heap.size 43 4 (.slice A ds.length c) ds.length (Bd.E.cellsL ds)) (r2 : Bd.E.OwnL w0.heap.size wa.heap.size wa ds)
    (r3 : ∀ g, (Value.slice A ds.length c).ownBlock = some g → g ∉ Bd.E.blksL ds) (hba : Below w0.heap.size w0 wa) : St1 W1 wa A c ds := by
  have z0 := h0.size
  exact ⟨⟨r1.1, r1.2.imp id fun ⟨g, cap, cur, e, hb, rest⟩ => ⟨g, cap, cur, e, by omega, rest⟩⟩, r2.wide z0 (Nat.le_refl _), r3, h0.trans (hba.mono z0)⟩
theorem St1.add {W1 wa w0 wb : World} {A : Option Addr} {c : Nat} {ds : List Bd} {d : Bd} (h : St1 W1 wa A c ds) (h0 : Below wa.heap.size wa w0) (hod : Bd.E.Own w0.heap.size wb.heap.size wb d) (hbb : Below w0.heap.size w0 wb) : AddSt W1 wb A c ds d := by
  have z0 := h0.size
  exact AddSt.of1 h.row h.own h.ap h.b (hod.wide z0 (Nat.le_refl _)) (h0.trans (hbb.mono z0))

set_option maxRecDepth 100000 in
set_option maxHeartbeats 4000000 in
theorem l3Add_yes (A : Option Addr) (c : Nat) (l : List Bd) (b : Bd) (B : Nat) (w : World) (hl : l.length < 1000) (hcl : Bd.clash l b = false) (hbk : Bd.bulkL l ≤ 2000000) (hbl : b.bulk ≤ 2000000 - 1) (hin : Bd.E.LIn w B A c l) (hib : b.In w B) (hB : B ≤ w.heap.size) :
    Calls Try.prog 74 #[.slice A l.length c, b.val] w fun e w' => ∃ (A' : Option Addr) (c' : Nat) (ds : List Bd), e = .returned (.tuple #[.slice A' ds.length c', .bool true]) ∧ Bd.erL ds = Bd.erL (l ++ [b]) ∧ Bd.E.LOwn w.heap.size w'.heap.size w' A' c' ds ∧ Below w.heap.size w w' := by
  have hcap := hin.cap
  obtain ⟨i0, hi, hz0, hz1, hz2⟩ := info_parts infoB
  obtain ⟨W0, hW0⟩ : ∃ W0, W0 = w.alloc (.cells #[.string b.t, .slice b.sa b.s.length b.sc, .int .i64 b.k, .int .i64 b.n] 43) := ⟨_, rfl⟩
  have z0 : W0.heap.size = w.heap.size + 1 := by rw [hW0]; simp
  have B0 : Below w.heap.size w W0 := by rw [hW0]; exact (Below.refl _ _).alloc (Nat.le_refl _) _
  have x0 : Bd.Box W0 w.heap.size b := by rw [hW0]; exact Bd.Box.new w b _
  obtain ⟨a0, a1, a2, a3⟩ := x0
  have lt0 : w.heap.size < W0.heap.size := by omega
  have HC := Lib.hid hcl
  clear hcl
  unfold Bd.val
  go_enter Try.func74, Try.ntmps74
  go_wp2_with fail
  rw [← hW0]
  clear hW0
  refine (clash_any A c l b B _ (hin.below (B0.mono hB)) (hib.below (B0.mono hB)) (by omega)).mono ?_
  rintro e W1 ⟨rfl, hb1⟩
  rw [HC.out]
  have z1 := hb1.size
  have B1 : Below w.heap.size w W1 := B0.trans (hb1.mono (by omega))
  have lt1 : w.heap.size < W1.heap.size := by omega
  have p0 := (hb1.cell (p := ⟨w.heap.size, 0, none⟩) lt0).trans a0
  have p1 := (hb1.cell (p := ⟨w.heap.size, 1, none⟩) lt0).trans a1
  have p2 := (hb1.cell (p := ⟨w.heap.size, 2, none⟩) lt0).trans a2
  have p3 := (hb1.cell (p := ⟨w.heap.size, 3, none⟩) lt0).trans a3
  clear a0 a1 a2 a3 hb1 B0
  have hin2 : ∀ w', Below W1.heap.size W1 w' → Bd.E.LIn w' B A c l := fun w' h => hin.below ((B1.trans (h.mono (by omega))).mono hB)
  have hib2 : b.In W1 B := hib.below (B1.mono hB)
  have hd0 : Below W1.heap.size W1 W1.drew := ⟨rfl, rfl, rfl, Nat.le_refl _, fun _ _ => rfl⟩
  have hd1 : ∀ o, Below W1.heap.size W1 (W1.drew.alloc o) := fun o => hd0.alloc (Nat.le_refl _) _
  have hd2 : ∀ o, Below W1.heap.size W1 (W1.alloc o).drew := fun o => ⟨rfl, rfl, rfl, by simp, fun k hk => ((Below.refl W1.heap.size W1).alloc (Nat.le_refl _) o).block k hk⟩
  have a0 := p0
  have a1 := p1
  have a2 := p2
  have a3 := p3
  go_wp2_with fail
  go_region_held3 (fun w' => w'.cell? ⟨w.heap.size, 0, none⟩ = some (.string b.t) ∧ w'.cell? ⟨w.heap.size, 1, none⟩ = some (.slice b.sa b.s.length b.sc) ∧ w'.cell? ⟨w.heap.size, 2, none⟩ = some (.int .i64 b.k) ∧ w'.cell? ⟨w.heap.size, 3, none⟩ = some (.int .i64 b.n)) (go_keep) (first | (go_at_call 73; (with_reducible refine (l3Copy_any A c l B _ hbk ?_ ?_).mono ?_); (first | with_reducible exact hin2 _ hbY | with_reducible exact hin2 _ hd0 | with_reducible exact hin2 _ (hd1 _) | with_reducible exact hin2 _ (hd2 _)); (first | (have := hbY.size; omega) | (show B ≤ W1.heap.size; omega) | (simp; omega)); rintro e wa ⟨A', c', ds, rfl, hde, r1, r2, r3, hba⟩; have hdl : ds.length ≤ 2000000 := (by rw [← Bd.erL_length ds, hde, Bd.erL_length]; have := Bd.bulkL_len l; omega); have Hde := Lib.hid hde; clear hde; first | (have _t := hbY; have hX := AddSt.of2 hodY hbY (Below.refl _ _) r1 r2 r3 hba; have hnw := news_below hnw hba hg2; have a0 := (hX.b.cell (p := ⟨w.heap.size, 0, none⟩) lt1).trans p0; have a1 := (hX.b.cell (p := ⟨w.heap.size, 1, none⟩) lt1).trans p1; have a2 := (hX.b.cell (p := ⟨w.heap.size, 2, none⟩) lt1).trans p2; have a3 := (hX.b.cell (p := ⟨w.heap.size, 3, none⟩) lt1).trans p3; clear r1 r2 r3) | (have hS := (by with_reducible exact St1.mk0 hd0 r1 r2 r3 hba : St1 W1 wa A' c' ds); have a0 := (hS.b.cell (p := ⟨w.heap.size, 0, none⟩) lt1).trans p0; have a1 := (hS.b.cell (p := ⟨w.heap.size, 1, none⟩) lt1).trans p1; have a2 := (hS.b.cell (p := ⟨w.heap.size, 2, none⟩) lt1).trans p2; have a3 := (hS.b.cell (p := ⟨w.heap.size, 3, none⟩) lt1).trans p3; clear r1 r2 r3) | (have hS := (by with_reducible exact St1.mk0 (hd1 _) r1 r2 r3 hba : St1 W1 wa A' c' ds); have a0 := (hS.b.cell (p := ⟨w.heap.size, 0, none⟩) lt1).trans p0; have a1 := (hS.b.cell (p := ⟨w.heap.size, 1, none⟩) lt1).trans p1; have a2 := (hS.b.cell (p := ⟨w.heap.size, 2, none⟩) lt1).trans p2; have a3 := (hS.b.cell (p := ⟨w.heap.size, 3, none⟩) lt1).trans p3; clear r1 r2 r3) | (have hS := (by with_reducible exact St1.mk0 (hd2 _) r1 r2 r3 hba : St1 W1 wa A' c' ds); have a0 := (hS.b.cell (p := ⟨w.heap.size, 0, none⟩) lt1).trans p0; have a1 := (hS.b.cell (p := ⟨w.heap.size, 1, none⟩) lt1).trans p1; have a2 := (hS.b.cell (p := ⟨w.heap.size, 2, none⟩) lt1).trans p2; have a3 := (hS.b.cell (p := ⟨w.heap.size, 3, none⟩) lt1).trans p3; clear r1 r2 r3)) | (go_at_call 73; (with_reducible refine (l3Copy_one _ _ b _ _ hbl ?_ (Nat.le_refl _)).mono ?_); (first | with_reducible exact (lin_one (hib2.below (hS.b.mono (by omega))) (by have := hS.b.size; omega)) | exact ((lin_one (w := W1.drew) hib2.drew (show B ≤ W1.heap.size by omega)).below hba).more hba.size | exact ((lin_one (w := W1) hib2 (show B ≤ W1.heap.size by omega)).drew.below hba).more hba.size | with_reducible exact (lin_one (w := W1.drew) hib2.drew (show B ≤ W1.heap.size by omega)) | with_reducible exact (lin_one (w := W1) hib2 (show B ≤ W1.heap.size by omega)).drew); rintro e wb ⟨g2, c2, d, rfl, hdb, hod, hg2, hnw, hbb⟩; have Hdb := Lib.hid hdb; clear hdb; first | (have hX := hS.add (by with_reducible exact Below.refl _ _) hod hbb; have a0 := (hX.b.cell (p := ⟨w.heap.size, 0, none⟩) lt1).trans p0; have a1 := (hX.b.cell (p := ⟨w.heap.size, 1, none⟩) lt1).trans p1; have a2 := (hX.b.cell (p := ⟨w.heap.size, 2, none⟩) lt1).trans p2; have a3 := (hX.b.cell (p := ⟨w.heap.size, 3, none⟩) lt1).trans p3; clear hod hbb) | (have hX := hS.add (by with_reducible exact (Below.refl _ _).alloc (Nat.le_refl _) _) hod hbb; have a0 := (hX.b.cell (p := ⟨w.heap.size, 0, none⟩) lt1).trans p0; have a1 := (hX.b.cell (p := ⟨w.heap.size, 1, none⟩) lt1).trans p1; have a2 := (hX.b.cell (p := ⟨w.heap.size, 2, none⟩) lt1).trans p2; have a3 := (hX.b.cell (p := ⟨w.heap.size, 3, none⟩) lt1).trans p3; clear hod hbb) | (have hbY := (by with_reducible exact hd1 _ : Below W1.heap.size W1 _).trans (hbb.mono (by show W1.heap.size ≤ _; simp)); have hodY := hod.wide (lo' := W1.heap.size) (hi' := wb.heap.size) (by show W1.heap.size ≤ _; simp) (Nat.le_refl _); have a0 := (hbY.cell (p := ⟨w.heap.size, 0, none⟩) lt1).trans p0; have a1 := (hbY.cell (p := ⟨w.heap.size, 1, none⟩) lt1).trans p1; have a2 := (hbY.cell (p := ⟨w.heap.size, 2, none⟩) lt1).trans p2; have a3 := (hbY.cell (p := ⟨w.heap.size, 3, none⟩) lt1).trans p3; clear hod hbb) | (have hbY := (by with_reducible exact hd2 _ : Below W1.heap.size W1 _).trans (hbb.mono (by show W1.heap.size ≤ _; simp)); have hodY := hod.wide (lo' := W1.heap.size) (hi' := wb.heap.size) (by show W1.heap.size ≤ _; simp) (Nat.le_refl _); have a0 := (hbY.cell (p := ⟨w.heap.size, 0, none⟩) lt1).trans p0; have a1 := (hbY.cell (p := ⟨w.heap.size, 1, none⟩) lt1).trans p1; have a2 := (hbY.cell (p := ⟨w.heap.size, 2, none⟩) lt1).trans p2; have a3 := (hbY.cell (p := ⟨w.heap.size, 3, none⟩) lt1).trans p3; clear hod hbb)) | (refine step_append_lies _ rfl (.tmp 16) (.tmp 19) 39 rfl W1.heap.size 43 i0 (.agg #[.string ⟨#[]⟩, .slice none 0 0, .int .i64 0, .int .i64 0]) 4 56 Try.underlying39 hi hz0 hz1 hz2 rfl (by decide) (.slice A' ds.length c') ds.length (Bd.E.cellsL ds) rfl hX.row ⟨g2, 0, none⟩ 1 c2 d.cells rfl rfl hnw (Bd.E.one d) (by decide) (by unfold maxLen; omega) (by omega) hX.b.size _ rfl ?_; intro g cap w5 hown5 hgr5 hat5 hlt5; have hD := hX.done hown5 hgr5 hat5; have hk5 := hgr5.block w.heap.size (by have := hX.b.size; omega) (fun e => by have := (hX.row.lt _ e.symm).1; omega); have a0 := (World.cell?_of_block (a := ⟨w.heap.size, 0, none⟩) hk5).trans a0; have a1 := (World.cell?_of_block (a := ⟨w.heap.size, 1, none⟩) hk5).trans a1; have a2 := (World.cell?_of_block (a := ⟨w.heap.size, 2, none⟩) hk5).trans a2; have a3 := (World.cell?_of_block (a := ⟨w.heap.size, 3, none⟩) hk5).trans a3) | fail)
  all_goals (
    obtain ⟨hD1, hD2⟩ := hD
    have hll2 : (ds ++ [d]).length = ds.length + 1 := by simp
    have hee : Bd.erL (ds ++ [d]) = Bd.erL (l ++ [b]) := by rw [Bd.erL_append, Bd.erL_append, Hde.out]; simp [Bd.erL, Hdb.out]
    have HEE := Lib.hid hee
    have HLL := Lib.hid hll2
    clear hee hll2 hown5 hgr5 hat5 hX hk5
    go_wp2_with fail
    refine bodyPost_ret (v := .tuple #[.slice (some ⟨g, 0, none⟩) (ds.length + 1) cap, .bool true]) (by simp [results, Try.results74, go_sem]) rfl ?_
    exact ⟨some ⟨g, 0, none⟩, cap, ds ++ [d], by rw [HLL.out], HEE.out, hD1.wide (by omega) (Nat.le_refl _), B1.trans (hD2.mono (by omega))⟩)

theorem Bd.areB_append (l : List Bd) (b : Bd) : Bd.areB (l ++ [b]) = (Bd.areB l && (Bd.isB b && (!Bd.clash l b && decide (l.length < 1000)))) := by
  unfold Bd.areB
  rw [Bd.goodL_append]
  simp only [Bd.goodL, List.nil_append, List.length_append, List.length_singleton, Bool.and_true]
  by_cases h1 : l.length < 1000
  · have h2 : l.length + 1 ≤ 1000 := by omega
    have h3 : l.length ≤ 1000 := by omega
    simp [h1, h2, h3]
  · have h2 : ¬ l.length + 1 ≤ 1000 := by omega
    simp [h1, h2]
theorem Bd.areB_append_er {a l : List Bd} {b : Bd} (h : Bd.erL a = Bd.erL l) : Bd.erL (a ++ [b]) = Bd.erL (l ++ [b]) := by rw [Bd.erL_append, Bd.erL_append, h]

set_option maxRecDepth 100000 in
set_option maxHeartbeats 2000000 in
theorem specAdd_any (A : Option Addr) (c : Nat) (l : List Bd) (b : Bd) (B : Nat) (w : World) (hbk : Bd.bulkL l ≤ 2000000) (hbl : b.bulk ≤ 2000000 - 1) (hin : Bd.E.LIn w B A c l) (hib : b.In w B) (hB : B ≤ w.heap.size) :
    Calls Try.prog 22 #[.slice A l.length c, b.val] w fun e w' => ∃ (A' : Option Addr) (c' : Nat) (ds : List Bd), e = .returned (.tuple #[.slice A' ds.length c', .bool (Bd.areB (l ++ [b]))]) ∧ Bd.erL ds = Bd.addL l b ∧ Bd.E.LOwn w.heap.size w'.heap.size w' A' c' ds ∧ Below w.heap.size w w' := by
  have hcap := hin.cap
  have HAA := Lib.hid (Bd.areB_append l b)
  obtain ⟨W0, hW0⟩ : ∃ W0, W0 = w.alloc (.cells #[.string b.t, .slice b.sa b.s.length b.sc, .int .i64 b.k, .int .i64 b.n] 43) := ⟨_, rfl⟩
  have z0 : W0.heap.size = w.heap.size + 1 := by rw [hW0]; simp
  have B0 : Below w.heap.size w W0 := by rw [hW0]; exact (Below.refl _ _).alloc (Nat.le_refl _) _
  have x0 : Bd.Box W0 w.heap.size b := by rw [hW0]; exact Bd.Box.new w b _
  obtain ⟨a0, a1, a2, a3⟩ := x0
  have lt0 : w.heap.size < W0.heap.size := by omega
  unfold Bd.val
  cases hA : Bd.areB l
  · have HA := Lib.hid hA
    clear hA
    have HN : Hid (Bd.areB (l ++ [b]) = false) := by show _ = _; rw [HAA.out, HA.out]; rfl
    go_enter Try.func22, Try.ntmps22
    go_wp2_with fail
    rw [← hW0]
    clear hW0
    refine (specAreB_any A c l B _ (hin.below (B0.mono hB)) (by omega)).mono ?_
    rintro e W1 ⟨rfl, hb1⟩
    rw [HA.out]
    have z1 := hb1.size
    have B1 : Below w.heap.size w W1 := B0.trans (hb1.mono (by omega))
    clear a0 a1 a2 a3 hb1 B0
    go_wp2_with fail
    refine (l3Copy_any A c l B _ hbk (hin.below (B1.mono hB)) (by omega)).mono ?_
    rintro e w2 hR
    obtain ⟨A2, c2, ds, rfl, hde, ho, hb2⟩ := hR.toBL
    have Hde := Lib.hid hde
    clear hde hR
    go_wp2_with fail
    refine bodyPost_ret (v := .tuple #[.slice A2 ds.length c2, .bool false]) (by simp [results, Try.results22, go_sem]) rfl ?_
    exact ⟨A2, c2, ds, by rw [HN.out], by rw [Hde.out, Bd.addL_no HN.out], ho.wide (by omega) (Nat.le_refl _), B1.trans (hb2.mono (by omega))⟩
  · have HA := Lib.hid hA
    clear hA
    cases hI : Bd.isB b
    · have HI := Lib.hid hI
      clear hI
      have HN : Hid (Bd.areB (l ++ [b]) = false) := by show _ = _; rw [HAA.out, HA.out, HI.out]; rfl
      go_enter Try.func22, Try.ntmps22
      go_wp2_with fail
      rw [← hW0]
      clear hW0
      refine (specAreB_any A c l B _ (hin.below (B0.mono hB)) (by omega)).mono ?_
      rintro e W1 ⟨rfl, hb1⟩
      rw [HA.out]
      have z1 := hb1.size
      have B1 : Below w.heap.size w W1 := B0.trans (hb1.mono (by omega))
      have b0 := (hb1.cell (p := ⟨w.heap.size, 0, none⟩) lt0).trans a0
      have b1 := (hb1.cell (p := ⟨w.heap.size, 1, none⟩) lt0).trans a1
      have b2 := (hb1.cell (p := ⟨w.heap.size, 2, none⟩) lt0).trans a2
      have b3 := (hb1.cell (p := ⟨w.heap.size, 3, none⟩) lt0).trans a3
      clear a0 a1 a2 a3 hb1 B0
      go_wp2_with fail
      refine (specIsB_any b B _ (hib.below (B1.mono hB)) (by omega)).mono ?_
      rintro e W2 ⟨rfl, hb2⟩
      rw [HI.out]
      have z2 := hb2.size
      have B2 : Below w.heap.size w W2 := B1.trans (hb2.mono (by omega))
      clear b0 b1 b2 b3 hb2 B1
      go_wp2_with fail
      refine (l3Copy_any A c l B _ hbk (hin.below (B2.mono hB)) (by omega)).mono ?_
      rintro e w3 hR
      obtain ⟨A2, c2, ds, rfl, hde, ho, hb3⟩ := hR.toBL
      have Hde := Lib.hid hde
      clear hde hR
      go_wp2_with fail
      refine bodyPost_ret (v := .tuple #[.slice A2 ds.length c2, .bool false]) (by simp [results, Try.results22, go_sem]) rfl ?_
      exact ⟨A2, c2, ds, by rw [HN.out], by rw [Hde.out, Bd.addL_no HN.out], ho.wide (by omega) (Nat.le_refl _), B2.trans (hb3.mono (by omega))⟩
    · have HI := Lib.hid hI
      clear hI
      go_enter Try.func22, Try.ntmps22
      go_wp2_with fail
      rw [← hW0]
      clear hW0
      refine (specAreB_any A c l B _ (hin.below (B0.mono hB)) (by omega)).mono ?_
      rintro e W8 ⟨rfl, hb1⟩
      rw [HA.out]
      have z8 := hb1.size
      have B8 : Below w.heap.size w W8 := B0.trans (hb1.mono (by omega))
      have b0 := (hb1.cell (p := ⟨w.heap.size, 0, none⟩) lt0).trans a0
      have b1 := (hb1.cell (p := ⟨w.heap.size, 1, none⟩) lt0).trans a1
      have b2 := (hb1.cell (p := ⟨w.heap.size, 2, none⟩) lt0).trans a2
      have b3 := (hb1.cell (p := ⟨w.heap.size, 3, none⟩) lt0).trans a3
      have lt8 : w.heap.size < W8.heap.size := by omega
      clear a0 a1 a2 a3 hb1 B0
      go_wp2_with fail
      refine (specIsB_any b B _ (hib.below (B8.mono hB)) (by omega)).mono ?_
      rintro e W1 ⟨rfl, hb2⟩
      rw [HI.out]
      have z1 := hb2.size
      have B2 : Below w.heap.size w W1 := B8.trans (hb2.mono (by omega))
      have p0 := (hb2.cell (p := ⟨w.heap.size, 0, none⟩) lt8).trans b0
      have p1 := (hb2.cell (p := ⟨w.heap.size, 1, none⟩) lt8).trans b1
      have p2 := (hb2.cell (p := ⟨w.heap.size, 2, none⟩) lt8).trans b2
      have p3 := (hb2.cell (p := ⟨w.heap.size, 3, none⟩) lt8).trans b3
      clear b0 b1 b2 b3 hb2 B8
      have lt1 : w.heap.size < W1.heap.size := by omega
      have hin2 : ∀ w', Below W1.heap.size W1 w' → Bd.E.LIn w' B A c l := fun w' h => hin.below ((B2.trans (h.mono (by omega))).mono hB)
      have hin3 : ∀ w', Below W1.heap.size W1 w' → b.In w' w'.heap.size := fun w' h => (hib.below ((B2.trans (h.mono (by omega))).mono hB)).more (by have := h.size; omega)
      have hd0 : Below W1.heap.size W1 W1.drew := ⟨rfl, rfl, rfl, Nat.le_refl _, fun _ _ => rfl⟩
      have a0 := p0
      have a1 := p1
      have a2 := p2
      have a3 := p3
      by_cases hq : l.length < 1000 ∧ Bd.clash l b = false
      · obtain ⟨hq1, hq2⟩ := hq
        have HC := Lib.hid hq2
        have HY : Hid (Bd.areB (l ++ [b]) = true) := by show _ = _; rw [HAA.out, HA.out, HI.out, hq2]; simp [hq1]
        clear hq2
        go_wp2_with fail
        go_region_held3 (fun w' => w'.cell? ⟨w.heap.size, 0, none⟩ = some (.string b.t) ∧ w'.cell? ⟨w.heap.size, 1, none⟩ = some (.slice b.sa b.s.length b.sc) ∧ w'.cell? ⟨w.heap.size, 2, none⟩ = some (.int .i64 b.k) ∧ w'.cell? ⟨w.heap.size, 3, none⟩ = some (.int .i64 b.n)) (go_keep) (first | (go_at_call 73; (with_reducible refine (l3Copy_any A c l B _ hbk ?_ ?_).mono ?_); exact hin2 _ hd0; (show B ≤ W1.heap.size; omega); rintro e wa hR; obtain ⟨A', c', ds, rfl, hde, hown, hba⟩ := hR.toBL; have hown : Bd.E.LOwn W1.heap.size wa.heap.size wa A' c' ds := hown; have hba : Below W1.heap.size W1 wa := below_undrew hba; have Hde := Lib.hid hde; have zc := hba.size; clear hde hR; have a0 := (hba.cell (p := ⟨w.heap.size, 0, none⟩) lt1).trans p0; have a1 := (hba.cell (p := ⟨w.heap.size, 1, none⟩) lt1).trans p1; have a2 := (hba.cell (p := ⟨w.heap.size, 2, none⟩) lt1).trans p2; have a3 := (hba.cell (p := ⟨w.heap.size, 3, none⟩) lt1).trans p3) | (go_at_call 74; have hl3 : ds.length < 1000 := (by rw [← Bd.erL_length ds, Hde.out, Bd.erL_length]; exact hq1); have hk3 : Bd.bulkL ds ≤ 2000000 := (by rw [← Bd.bulkL_er, Hde.out, Bd.bulkL_er]; exact hbk); have hcon := fun B' w' => l3Add_yes A' c' ds b B' w' hl3 (by rw [Bd.clash_er (x := b) (y := b) Hde.out rfl]; exact HC.out) hk3 hbl; unfold Bd.val at hcon; refine (hcon _ _ hown.inn (hin3 _ hba) (Nat.le_refl _)).mono ?_; clear hcon; rintro e wb ⟨A2, c2, ds2, rfl, hd2, ho2, hbb⟩; have zb := hbb.size; have hbY := hba.trans (hbb.mono zc); have a0 := (hbY.cell (p := ⟨w.heap.size, 0, none⟩) lt1).trans p0; have a1 := (hbY.cell (p := ⟨w.heap.size, 1, none⟩) lt1).trans p1; have a2 := (hbY.cell (p := ⟨w.heap.size, 2, none⟩) lt1).trans p2; have a3 := (hbY.cell (p := ⟨w.heap.size, 3, none⟩) lt1).trans p3; have Hd2 := Lib.hid hd2; clear hd2) | fail)
        all_goals (
          go_wp2_with fail
          refine bodyPost_ret (v := .tuple #[.slice A2 ds2.length c2, .bool true]) (by simp [results, Try.results22, go_sem]) rfl ?_
          exact ⟨A2, c2, ds2, by rw [HY.out], by rw [Hd2.out, Bd.addL_yes HY.out, Bd.areB_append_er Hde.out], ho2.wide (by omega) (Nat.le_refl _), B2.trans (hbY.mono (by omega))⟩)
      · have hq' : 1000 ≤ l.length ∨ Bd.clash l b = true := by
          by_cases h : l.length < 1000
          · exact .inr (by cases hc : Bd.clash l b; exact absurd ⟨h, hc⟩ hq; rfl)
          · exact .inl (by omega)
        have HNO := Lib.hid hq'
        have HN : Hid (Bd.areB (l ++ [b]) = false) := by
          show _ = _
          rw [HAA.out, HA.out, HI.out]
          rcases hq' with h | h
          · have : ¬ l.length < 1000 := by omega
            simp [this]
          · simp [h]
        clear hq hq'
        go_wp2_with fail
        go_region_held3 (fun w' => w'.cell? ⟨w.heap.size, 0, none⟩ = some (.string b.t) ∧ w'.cell? ⟨w.heap.size, 1, none⟩ = some (.slice b.sa b.s.length b.sc) ∧ w'.cell? ⟨w.heap.size, 2, none⟩ = some (.int .i64 b.k) ∧ w'.cell? ⟨w.heap.size, 3, none⟩ = some (.int .i64 b.n)) (go_keep) (first | (go_at_call 73; (with_reducible refine (l3Copy_any A c l B _ hbk ?_ ?_).mono ?_); exact hin2 _ hd0; (show B ≤ W1.heap.size; omega); rintro e wa hR; obtain ⟨A', c', ds, rfl, hde, hown, hba⟩ := hR.toBL; have hown : Bd.E.LOwn W1.heap.size wa.heap.size wa A' c' ds := hown; have hba : Below W1.heap.size W1 wa := below_undrew hba; have Hde := Lib.hid hde; have zc := hba.size; clear hde hR; have a0 := (hba.cell (p := ⟨w.heap.size, 0, none⟩) lt1).trans p0; have a1 := (hba.cell (p := ⟨w.heap.size, 1, none⟩) lt1).trans p1; have a2 := (hba.cell (p := ⟨w.heap.size, 2, none⟩) lt1).trans p2; have a3 := (hba.cell (p := ⟨w.heap.size, 3, none⟩) lt1).trans p3) | (go_at_call 74; have hcon := fun B' w' => l3Add_no A' c' ds b B' w' (by rw [Bd.clash_er (x := b) (y := b) Hde.out rfl, ← Bd.erL_length ds, Hde.out, Bd.erL_length]; exact HNO.out); unfold Bd.val at hcon; refine (hcon _ _ hown.inn (hin3 _ hba) (Nat.le_refl _)).mono ?_; clear hcon; rintro e wb ⟨rfl, hbb⟩; have zb := hbb.size; have hbY := hba.trans (hbb.mono zc); have a0 := (hbY.cell (p := ⟨w.heap.size, 0, none⟩) lt1).trans p0; have a1 := (hbY.cell (p := ⟨w.heap.size, 1, none⟩) lt1).trans p1; have a2 := (hbY.cell (p := ⟨w.heap.size, 2, none⟩) lt1).trans p2; have a3 := (hbY.cell (p := ⟨w.heap.size, 3, none⟩) lt1).trans p3; have ho2 := hown.below hbb) | fail)
        all_goals (
          go_wp2_with fail
          refine bodyPost_ret (v := .tuple #[.slice A' ds.length c', .bool false]) (by simp [results, Try.results22, go_sem]) rfl ?_
          exact ⟨A', c', ds, by rw [HN.out], by rw [Hde.out, Bd.addL_no HN.out], ho2.wide (by omega) zb, B2.trans (hbY.mono (by omega))⟩)
end Go.Proofs.Ytikjipkhebedfaa
