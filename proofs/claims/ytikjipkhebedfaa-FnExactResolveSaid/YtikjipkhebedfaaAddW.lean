/-
  One binding more: the program's AddBinding.
-/
import Derived.Test.YtikjipkhebedfaaCpB
import Derived.Test.YtikjipkhebedfaaAddS
import Derived.Test.YtikjipkhebedfaaAreW
import Derived.Deep.RegionLaw
namespace Go.Proofs.Ytikjipkhebedfaa
open Go.RowKit

/-- The list and one binding more, where that is valid. -/
def Bd.addL (l : List Bd) (b : Bd) : List Bd := if Bd.areB (l ++ [b]) then Bd.erL (l ++ [b]) else Bd.erL l
theorem Bd.addL_yes {l : List Bd} {b : Bd} (h : Bd.areB (l ++ [b]) = true) : Bd.addL l b = Bd.erL (l ++ [b]) := by unfold Bd.addL; rw [if_pos h]
theorem Bd.addL_no {l : List Bd} {b : Bd} (h : Bd.areB (l ++ [b]) = false) : Bd.addL l b = Bd.erL l := by unfold Bd.addL; rw [if_neg (by simp [h])]

set_option maxRecDepth 100000 in
set_option maxHeartbeats 2000000 in
theorem implAdd_any (A : Option Addr) (c : Nat) (l : List Bd) (b : Bd) (B : Nat) (w : World) (hbk : Bd.bulkL l ≤ 2000000) (hs : b.s.length ≤ 2000000) (hin : Bd.E.LIn w B A c l) (hib : b.In w B) (hB : B ≤ w.heap.size) :
    Calls Try.prog 25 #[.slice A l.length c, b.val] w fun e w' => ∃ (A' : Option Addr) (c' : Nat) (ds : List Bd), e = .returned (.tuple #[.slice A' ds.length c', .bool (Bd.areB (l ++ [b]))]) ∧ Bd.erL ds = Bd.addL l b ∧ Bd.E.LOwn w.heap.size w'.heap.size w' A' c' ds ∧ Below w.heap.size w w' := by
  have hcap := hin.cap
  obtain ⟨i0, hi, hz0, hz1, hz2⟩ := info_parts infoB
  obtain ⟨W1, hW1⟩ : ∃ W1, W1 = w.alloc (.cells #[.string b.t, .slice b.sa b.s.length b.sc, .int .i64 b.k, .int .i64 b.n] 43) := ⟨_, rfl⟩
  have z1 : W1.heap.size = w.heap.size + 1 := by rw [hW1]; simp
  have lt1 : w.heap.size < W1.heap.size := by omega
  have B1 : Below w.heap.size w W1 := by rw [hW1]; exact (Below.refl _ _).alloc (Nat.le_refl _) _
  have x0 : Bd.Box W1 w.heap.size b := by rw [hW1]; exact Bd.Box.new w b _
  obtain ⟨a0, a1, a2, a3⟩ := x0
  have hin2 : ∀ w', Below W1.heap.size W1 w' → Bd.E.LIn w' B A c l := fun w' h => hin.below ((B1.trans (h.mono (by omega))).mono hB)
  have hinb2 : ∀ w', Below W1.heap.size W1 w' → b.In w' B := fun w' h => hib.below ((B1.trans (h.mono (by omega))).mono hB)
  have hd0 : Below W1.heap.size W1 W1.drew := ⟨rfl, rfl, rfl, Nat.le_refl _, fun _ _ => rfl⟩
  unfold Bd.val
  go_enter Try.func25, Try.ntmps25
  go_wp2_with fail
  rw [← hW1]
  clear hW1
  go_region_law (first | (go_simp; go_at_call 76; refine (copyBL_any A c l B _ hbk ?_ ?_).mono ?_; (first | exact hin2 _ hd0 | exact hin2 _ hc | exact hin2 _ (hc.alloc (by omega) _)); (first | omega | (show B ≤ W1.heap.size; omega) | (simp; omega)); rintro e wa ⟨A', c', ds, rfl, hde, r1, r2, r3, hba⟩; have hdl : ds.length ≤ 2000000 := (by rw [← Bd.erL_length ds, hde, Bd.erL_length]; have := Bd.bulkL_len l; omega); have Hde := Lib.hid hde; clear hde; first | (have hX := AddSt.of2 hod hc (Below.refl _ _) r1 r2 r3 hba) | (have hX := AddSt.of2 hod hc ((Below.refl _ _).alloc (Nat.le_refl _) _) r1 r2 r3 hba) | (have r1 : wa.ownsRow W1.heap.size 43 4 (.slice A' ds.length c') ds.length (Bd.E.cellsL ds) := r1; have r2 : Bd.E.OwnL W1.heap.size wa.heap.size wa ds := r2; have hba : Below W1.heap.size W1 wa := below_undrew hba; have hc := hba; have zc := hc.size; have R1 := r1; have R2 := r2; have R3 := r3; have a0 := (hba.cell (p := ⟨w.heap.size, 0, none⟩) lt1).trans a0; have a1 := (hba.cell (p := ⟨w.heap.size, 1, none⟩) lt1).trans a1; have a2 := (hba.cell (p := ⟨w.heap.size, 2, none⟩) lt1).trans a2; have a3 := (hba.cell (p := ⟨w.heap.size, 3, none⟩) lt1).trans a3)) | (go_simp; go_at_call 77; refine (copyBd_any b B _ hs ?_ ?_).mono ?_; (first | exact hinb2 _ hd0 | exact hinb2 _ hc); (first | omega | (show B ≤ W1.heap.size; omega)); rintro e wb ⟨d, rfl, hdb, hod, hbb⟩; have Hdb := Lib.hid hdb; clear hdb; simp only [Bd.val]; first | (have hX := AddSt.of1 R1 R2 R3 hc hod hbb; clear hod hbb) | (have hod : Bd.E.Own W1.heap.size wb.heap.size wb d := hod; have hbb : Below W1.heap.size W1 wb := below_undrew hbb; have hc := hbb; have zc := hc.size)) | (refine step_append_lies _ rfl (.tmp 8) (.tmp 11) 39 rfl W1.heap.size 43 i0 (.agg #[.string ⟨#[]⟩, .slice none 0 0, .int .i64 0, .int .i64 0]) 4 56 Try.underlying39 hi hz0 hz1 hz2 rfl (by decide) (.slice A' ds.length c') ds.length (Bd.E.cellsL ds) rfl (by first | exact hX.row | exact (hX.alloc _).row) ⟨_, 0, none⟩ 1 1 d.cells rfl rfl (by first | exact World.news_of_block (heap_alloc_new _ _) | exact World.news_of_block ((hba.block _ (by simp)).trans (heap_alloc_new _ _))) (Bd.E.one d) (by decide) (by unfold maxLen; omega) (by omega) (by first | exact hX.b.size | exact (hX.alloc _).b.size) _ rfl ?_; intro g cap w5 hown5 hgr5 hat5 hlt5; (first | have hD := AddSt.done hX hown5 hgr5 hat5 | have hD := (hX.alloc _).done hown5 hgr5 hat5)))
  all_goals (
    have hee : Bd.erL (ds ++ [d]) = Bd.erL (l ++ [b]) := by rw [Bd.erL_append, Bd.erL_append, Hde.out]; simp [Bd.erL, Hdb.out]
    have HEE := Lib.hid hee
    have b5 : Below w.heap.size w w5 := B1.trans (hD.2.mono (by omega))
    have hLO := hD.1.wide (lo' := w.heap.size) (by omega) (Nat.le_refl _)
    have hll : (ds ++ [d]).length = ds.length + 1 := by simp
    have hA := implAreB_any (some ⟨g, 0, none⟩) cap (ds ++ [d]) w5.heap.size w5 hLO.inn (Nat.le_refl _)
    rw [hll, Bd.areB_er hee] at hA
    have HLL := Lib.hid hll
    have zz5 := hD.2.size
    clear hee hll hD hown5 hgr5 hat5 hX
    go_wp2_with fail
    refine hA.mono ?_
    rintro e w6 ⟨rfl, hb6⟩
    have zz6 := hb6.size
    have b6 := b5.trans (hb6.mono (by omega))
    clear hA
    cases hq : Bd.areB (l ++ [b])
    · have HQ := Lib.hid hq
      clear hq
      go_wp2_with fail
      refine (copyBL_any A c l B _ hbk (hin.below (b6.mono hB)) (by omega)).mono ?_
      rintro e w7 h7
      obtain ⟨A7, c7, l7, rfl, he7, ho7, hb7⟩ := h7.toBL
      have HE7 := Lib.hid he7
      clear h7 he7
      go_wp2_with fail
      refine bodyPost_ret (v := .tuple #[.slice A7 l7.length c7, .bool false]) (by simp [results, Try.results25, go_sem]) rfl ?_
      exact ⟨A7, c7, l7, by rw [HQ.out], by rw [HE7.out, Bd.addL_no HQ.out], ho7.wide (by omega) (Nat.le_refl _), b6.trans (hb7.mono (by omega))⟩
    · have HQ := Lib.hid hq
      clear hq
      go_wp2_with fail
      refine bodyPost_ret (v := .tuple #[.slice (some ⟨g, 0, none⟩) (ds.length + 1) cap, .bool true]) (by simp [results, Try.results25, go_sem]) rfl ?_
      exact ⟨some ⟨g, 0, none⟩, cap, ds ++ [d], by rw [HLL.out, HQ.out], by rw [HEE.out, Bd.addL_yes HQ.out], (hLO.below hb6).wide (Nat.le_refl _) zz6, b6⟩)
end Go.Proofs.Ytikjipkhebedfaa
