/-
  The binding with the most scopes: slices.MaxFunc over compareSizes.
-/
import Derived.Test.YtikjipkhebedfaaAddM
import Derived.Test.YtikjipkhebedfaaCpB
import Derived.Test.YtikjipkhebedfaaShelf
import Derived.Deep.RegionHeld3
namespace Go.Proofs.Ytikjipkhebedfaa
open Go.RowKit
namespace Bd
/-- The first of those with the most scopes. -/
def bestL : Bd → List Bd → Bd | m, [] => m | m, b :: r => bestL (if m.s.length < b.s.length then b else m) r
theorem bestL_snoc (m : Bd) (r : List Bd) (x : Bd) : bestL m (r ++ [x]) = if (bestL m r).s.length < x.s.length then x else bestL m r := by
  induction r generalizing m with
  | nil => rfl
  | cons a r ih => exact ih _
theorem bestL_mem (m : Bd) (r : List Bd) : bestL m r ∈ m :: r := by
  induction r generalizing m with
  | nil => simp [bestL]
  | cons a r ih =>
    have := ih (if m.s.length < a.s.length then a else m)
    simp only [bestL]
    rcases List.mem_cons.1 this with h | h
    · rw [h]; split <;> simp
    · simp [h]
theorem bestL_zero (l : List Bd) (h : 0 < l.length) : bestL l[0] (l.tail.take 0) = l[0] := by simp [bestL]
theorem bestL_step (l : List Bd) (j : Nat) (h : j + 1 < l.length) : bestL l[0] (l.tail.take (j + 1)) = if (bestL l[0] (l.tail.take j)).s.length < l[j + 1].s.length then l[j + 1] else bestL l[0] (l.tail.take j) := by
  have ht : j < l.tail.length := by rw [List.length_tail]; omega
  rw [List.take_succ_eq_append_getElem ht, bestL_snoc, List.getElem_tail]
theorem bestL_in (l : List Bd) (j : Nat) (h : 0 < l.length) : bestL l[0] (l.tail.take j) ∈ l := by
  have := bestL_mem l[0] (l.tail.take j)
  rcases List.mem_cons.1 this with e | e
  · rw [e]; exact List.getElem_mem h
  · exact List.mem_of_mem_tail (List.mem_of_mem_take e)
end Bd

set_option maxHeartbeats 800000 in
theorem cmpSz_any (x y : Bd) (w : World) (hx : x.s.length ≤ 9223372036854775807) (hy : y.s.length ≤ 9223372036854775807) : Calls Try.prog 141 #[x.val, y.val] w fun e w' => e = .returned (.int .i64 (Lib.compareInt x.s.length y.s.length)) ∧ Below w.heap.size w w' := by
  have bA : Below w.heap.size w ((w.alloc (.cells #[.string x.t, .slice x.sa x.s.length x.sc, .int .i64 x.k, .int .i64 x.n] 43)).alloc (.cells #[.string y.t, .slice y.sa y.s.length y.sc, .int .i64 y.k, .int .i64 y.n] 43)) := ((Below.refl _ _).alloc (Nat.le_refl _) _).alloc (by simp) _
  unfold Bd.val
  go_enter Try.func141, Try.ntmps141
  go_wp2_with fail
  refine (Try.cmp_Compare_int _ _ _).mono ?_
  rintro e w1 ⟨rfl, rfl⟩
  go_wp2_with fail
  go_ret
  exact ⟨rfl, bA⟩

theorem cmpSz_gt (x y : Bd) (w : World) (hx : x.s.length ≤ 9223372036854775807) (hy : y.s.length ≤ 9223372036854775807) (h : y.s.length < x.s.length) : Calls Try.prog 141 #[x.val, y.val] w fun e w' => e = .returned (.int .i64 1) ∧ Below w.heap.size w w' := by
  refine (cmpSz_any x y w hx hy).mono ?_
  rintro e w' ⟨rfl, hb⟩
  refine ⟨?_, hb⟩
  unfold Lib.compareInt
  rw [if_neg (by omega), if_pos (by omega)]
theorem cmpSz_le (x y : Bd) (w : World) (hx : x.s.length ≤ 9223372036854775807) (hy : y.s.length ≤ 9223372036854775807) (h : ¬ y.s.length < x.s.length) : Calls Try.prog 141 #[x.val, y.val] w fun e w' => ∃ v : Int, e = .returned (.int .i64 v) ∧ v ≤ 0 ∧ Below w.heap.size w w' := by
  refine (cmpSz_any x y w hx hy).mono ?_
  rintro e w' ⟨rfl, hb⟩
  refine ⟨_, rfl, ?_, hb⟩
  unfold Lib.compareInt
  split
  · omega
  · rw [if_neg (by omega)]; omega

theorem D.Blk.other {w : World} {g : Nat} {T : TypeId} {cs : Array Value} (h : D.Blk w g T cs) {p : Addr} (hp : g ≠ p.block) (u : Value) : D.Blk (w.setCell p u) g T cs := (Below.heap_setCell _ _ _ _ hp).trans h
theorem mbox_put {w : World} {g : Nat} {T : TypeId} {b d : Bd} (h : D.Blk w g T #[.string b.t, .slice b.sa b.s.length b.sc, .int .i64 b.k, .int .i64 b.n]) :
    D.Blk ((((w.setCell ⟨g, 0, none⟩ (.string d.t)).setCell ⟨g, 1, none⟩ (.slice d.sa d.s.length d.sc)).setCell ⟨g, 2, none⟩ (.int .i64 d.k)).setCell ⟨g, 3, none⟩ (.int .i64 d.n)) g T #[.string d.t, .slice d.sa d.s.length d.sc, .int .i64 d.k, .int .i64 d.n] := by
  have := (((h.set_ 0 (.string d.t)).set_ 1 (.slice d.sa d.s.length d.sc)).set_ 2 (.int .i64 d.k)).set_ 3 (.int .i64 d.n)
  simpa using this

set_option maxRecDepth 100000 in
set_option maxHeartbeats 4000000 in
theorem maxB_any (A : Option Addr) (c : Nat) (l : List Bd) (h0 : 0 < l.length) (B : Nat) (w : World) (hin : Bd.E.LIn w B A c l) (hB : B ≤ w.heap.size) (hsc : ∀ x ∈ l, x.s.length ≤ 9223372036854775807) :
    Calls Try.prog 140 #[.slice A l.length c, .func (.func 141) #[] #[]] w fun e w' => e = .returned (Bd.bestL l[0] l.tail).val ∧ Below w.heap.size w w' := by
  have hcap := hin.cap
  obtain ⟨b, o, rfl, hblk, c0, c1, c2, c3, hix⟩ := Bd.at_ hin (i := 0) (x := l[0]) (List.getElem?_eq_getElem h0)
  have n1 : ¬ ((l.length : Int) < 1) := by omega
  have n2 : (0 : Int) < (l.length : Int) := by omega
  simp only [Nat.zero_mul, Nat.add_zero] at c0 c1 c2 c3
  have lt0 : b < w.heap.size := by omega
  have bZ : Below w.heap.size w (w.alloc (.cells #[.string ⟨#[]⟩, .slice none 0 0, .int .i64 0, .int .i64 0] 43)) := (Below.refl _ _).alloc (Nat.le_refl _) _
  have e0 := (bZ.cell (p := ⟨b, o, none⟩) lt0).trans c0
  have e1 := (bZ.cell (p := ⟨b, o + 1, none⟩) lt0).trans c1
  have e2 := (bZ.cell (p := ⟨b, o + 2, none⟩) lt0).trans c2
  have e3 := (bZ.cell (p := ⟨b, o + 3, none⟩) lt0).trans c3
  obtain ⟨W1, hW1⟩ : ∃ W, W = (w.alloc (.cells #[.string ⟨#[]⟩, .slice none 0 0, .int .i64 0, .int .i64 0] 43)).alloc (.cells #[.string l[0].t, .slice l[0].sa l[0].s.length l[0].sc, .int .i64 l[0].k, .int .i64 l[0].n] 43) := ⟨_, rfl⟩
  have K1 : Hid (D.Blk W1 (w.heap.size + 1) 43 #[.string l[0].t, .slice l[0].sa l[0].s.length l[0].sc, .int .i64 l[0].k, .int .i64 l[0].n]) := by
    rw [hW1]; have := D.Blk.new (w.alloc (.cells #[.string ⟨#[]⟩, .slice none 0 0, .int .i64 0, .int .i64 0] 43)) 43 #[.string l[0].t, .slice l[0].sa l[0].s.length l[0].sc, .int .i64 l[0].k, .int .i64 l[0].n]; simpa [Hid] using this
  have K0 : Hid (D.Blk W1 w.heap.size 43 #[.string ⟨#[]⟩, .slice none 0 0, .int .i64 0, .int .i64 0]) := by
    rw [hW1]; exact (D.Blk.new w 43 #[.string ⟨#[]⟩, .slice none 0 0, .int .i64 0, .int .i64 0]).below ((Below.refl (w.heap.size + 1) _).alloc (by simp) _) (by omega)
  have z1 : w.heap.size + 2 ≤ W1.heap.size := by rw [hW1]; simp
  have B1 : Below w.heap.size w W1 := by rw [hW1]; exact bZ.alloc (by simp) _
  go_enter Try.func140, Try.ntmps140
  go_wp2_with fail
  rw [← hW1]
  clear hW1 e0 e1 e2 e3 c0 c1 c2 c3 bZ
  go_loopw [6] (fun i wr => ∃ j : Nat, j + 1 ≤ l.length ∧ i = .int .i64 ((j : Int) + 1) ∧ Below w.heap.size w wr ∧ w.heap.size + 2 ≤ wr.heap.size ∧ Hid (D.Blk wr w.heap.size 43 #[.string ⟨#[]⟩, .slice none 0 0, .int .i64 0, .int .i64 0]) ∧ ∃ m, Hid (m = Bd.bestL l[0] (l.tail.take j)) ∧ Hid (D.Blk wr (w.heap.size + 1) 43 #[.string m.t, .slice m.sa m.s.length m.sc, .int .i64 m.k, .int .i64 m.n])) (fun i _ => l.length - (intOf i).toNat)
  case atStart => exact ⟨0, by omega, rfl, B1, z1, K0, l[0], (Bd.bestL_zero l h0).symm, K1⟩
  case round =>
    obtain ⟨j, hj, rfl, hb, hz, KR, m, HM, KM⟩ := hrel
    by_cases hlt : j + 1 < l.length
    · obtain ⟨b', o', e, hblk', c0, c1, c2, c3, hix'⟩ := Bd.at_ (hin.below (hb.mono hB)) (i := j + 1) (x := l[j + 1]) (List.getElem?_eq_getElem hlt)
      obtain ⟨rfl, rfl, _⟩ := Addr.mk.inj (Option.some.inj e)
      have g1 : (j : Int) + 1 < (l.length : Int) := by omega
      have g0 : (0 : Int) ≤ (j : Int) + 1 := by omega
      have d0 : wr.cell? ⟨w.heap.size + 1, 0, none⟩ = some (.string m.t) := KM.out.cell 0
      have d1 : wr.cell? ⟨w.heap.size + 1, 1, none⟩ = some (.slice m.sa m.s.length m.sc) := KM.out.cell 1
      have d2 : wr.cell? ⟨w.heap.size + 1, 2, none⟩ = some (.int .i64 m.k) := KM.out.cell 2
      have d3 : wr.cell? ⟨w.heap.size + 1, 3, none⟩ = some (.int .i64 m.n) := KM.out.cell 3
      have hs1 := hsc l[j + 1] (List.getElem_mem hlt)
      have hsm : m.s.length ≤ 9223372036854775807 := by rw [HM.out]; exact hsc _ (Bd.bestL_in l j h0)
      have lc : b < wr.heap.size := by omega
      have ld : w.heap.size + 1 < wr.heap.size := by omega
      have HST := Lib.hid (Bd.bestL_step l j hlt)
      go_wp2_with fail
      by_cases hlen : m.s.length < l[j + 1].s.length
      · go_region_held3 (fun w' => w'.cell? ⟨b, o + (j + 1) * 4, none⟩ = some (.string l[j + 1].t) ∧ w'.cell? ⟨b, o + (j + 1) * 4 + 1, none⟩ = some (.slice l[j + 1].sa l[j + 1].s.length l[j + 1].sc) ∧ w'.cell? ⟨b, o + (j + 1) * 4 + 2, none⟩ = some (.int .i64 l[j + 1].k) ∧ w'.cell? ⟨b, o + (j + 1) * 4 + 3, none⟩ = some (.int .i64 l[j + 1].n) ∧ w'.cell? ⟨w.heap.size + 1, 0, none⟩ = some (.string m.t) ∧ w'.cell? ⟨w.heap.size + 1, 1, none⟩ = some (.slice m.sa m.s.length m.sc) ∧ w'.cell? ⟨w.heap.size + 1, 2, none⟩ = some (.int .i64 m.k) ∧ w'.cell? ⟨w.heap.size + 1, 3, none⟩ = some (.int .i64 m.n)) (go_keep) (first | (go_at_call 141; have hcon := cmpSz_gt l[j + 1] m wr.drew hs1 hsm hlen; unfold Bd.val at hcon; (with_reducible refine hcon.mono ?_); clear hcon; rintro e wa ⟨rfl, hba⟩; have hba : Below wr.heap.size wr wa := below_undrew hba; have zba := hba.size; have c0 := (hba.cell (p := ⟨b, o + (j + 1) * 4, none⟩) lc).trans c0; have c1 := (hba.cell (p := ⟨b, o + (j + 1) * 4 + 1, none⟩) lc).trans c1; have c2 := (hba.cell (p := ⟨b, o + (j + 1) * 4 + 2, none⟩) lc).trans c2; have c3 := (hba.cell (p := ⟨b, o + (j + 1) * 4 + 3, none⟩) lc).trans c3; have d0 := (hba.cell (p := ⟨w.heap.size + 1, 0, none⟩) ld).trans d0; have d1 := (hba.cell (p := ⟨w.heap.size + 1, 1, none⟩) ld).trans d1; have d2 := (hba.cell (p := ⟨w.heap.size + 1, 2, none⟩) ld).trans d2; have d3 := (hba.cell (p := ⟨w.heap.size + 1, 3, none⟩) ld).trans d3) | fail)
        have KR2 := KR.out.below hba (by omega)
        have KM2 := KM.out.below hba (by omega)
        have HR2 := Lib.hid KR2
        have f0 := KM2.frozen 0
        have f1 := KM2.frozen 1
        have f2 := KM2.frozen 2
        have f3 := KM2.frozen 3
        have HM2 := Lib.hid KM2
        have HM3 : Hid (l[j + 1] = Bd.bestL l[0] (l.tail.take (j + 1))) := by
          show l[j + 1] = _
          rw [HST.out, ← HM.out, if_pos hlen]
        have b2 := hb.trans (hba.mono (by omega))
        clear KR KM KR2 KM2
        go_wp2_with fail
        exact ⟨⟨j + 1, by omega, by go_num, (((b2.setCell (by simp) _).setCell (by simp) _).setCell (by simp) _).setCell (by simp) _, by simp only [World.size_setCell]; omega, Lib.hid ((((HR2.out.other (by simp) _).other (by simp) _).other (by simp) _).other (by simp) _), l[j + 1], HM3, Lib.hid (mbox_put HM2.out)⟩, by simp [intOf]; omega⟩
      · go_region_held3 (fun w' => w'.cell? ⟨b, o + (j + 1) * 4, none⟩ = some (.string l[j + 1].t) ∧ w'.cell? ⟨b, o + (j + 1) * 4 + 1, none⟩ = some (.slice l[j + 1].sa l[j + 1].s.length l[j + 1].sc) ∧ w'.cell? ⟨b, o + (j + 1) * 4 + 2, none⟩ = some (.int .i64 l[j + 1].k) ∧ w'.cell? ⟨b, o + (j + 1) * 4 + 3, none⟩ = some (.int .i64 l[j + 1].n) ∧ w'.cell? ⟨w.heap.size + 1, 0, none⟩ = some (.string m.t) ∧ w'.cell? ⟨w.heap.size + 1, 1, none⟩ = some (.slice m.sa m.s.length m.sc) ∧ w'.cell? ⟨w.heap.size + 1, 2, none⟩ = some (.int .i64 m.k) ∧ w'.cell? ⟨w.heap.size + 1, 3, none⟩ = some (.int .i64 m.n)) (go_keep) (first | (go_at_call 141; have hcon := cmpSz_le l[j + 1] m wr.drew hs1 hsm hlen; unfold Bd.val at hcon; (with_reducible refine hcon.mono ?_); clear hcon; rintro e wa ⟨v, rfl, hv, hba⟩; have hba : Below wr.heap.size wr wa := below_undrew hba; have zba := hba.size; have c0 := (hba.cell (p := ⟨b, o + (j + 1) * 4, none⟩) lc).trans c0; have c1 := (hba.cell (p := ⟨b, o + (j + 1) * 4 + 1, none⟩) lc).trans c1; have c2 := (hba.cell (p := ⟨b, o + (j + 1) * 4 + 2, none⟩) lc).trans c2; have c3 := (hba.cell (p := ⟨b, o + (j + 1) * 4 + 3, none⟩) lc).trans c3; have d0 := (hba.cell (p := ⟨w.heap.size + 1, 0, none⟩) ld).trans d0; have d1 := (hba.cell (p := ⟨w.heap.size + 1, 1, none⟩) ld).trans d1; have d2 := (hba.cell (p := ⟨w.heap.size + 1, 2, none⟩) ld).trans d2; have d3 := (hba.cell (p := ⟨w.heap.size + 1, 3, none⟩) ld).trans d3) | fail)
        have KR2 := Lib.hid (KR.out.below hba (by omega))
        have KM2 := Lib.hid (KM.out.below hba (by omega))
        have HM2 : Hid (m = Bd.bestL l[0] (l.tail.take (j + 1))) := by
          show m = _
          rw [HST.out, ← HM.out, if_neg hlen]
        have nv : ¬ (0 < v) := by omega
        have b2 := hb.trans (hba.mono (by omega))
        clear KR KM c0 c1 c2 c3 d0 d1 d2 d3
        go_wp2_with fail
        exact ⟨⟨j + 1, by omega, by go_num, b2, by omega, KR2, m, HM2, KM2⟩, by simp [intOf]; omega⟩
    · have hj' : l.length = j + 1 := by omega
      have hfin : m = Bd.bestL l[0] l.tail := by
        have := HM.out
        rwa [List.take_of_length_le (by rw [List.length_tail]; omega)] at this
      have ng : ¬ ((j : Int) + 1 < (l.length : Int)) := by omega
      have d0 : wr.cell? ⟨w.heap.size + 1, 0, none⟩ = some (.string m.t) := KM.out.cell 0
      have d1 : wr.cell? ⟨w.heap.size + 1, 1, none⟩ = some (.slice m.sa m.s.length m.sc) := KM.out.cell 1
      have d2 : wr.cell? ⟨w.heap.size + 1, 2, none⟩ = some (.int .i64 m.k) := KM.out.cell 2
      have d3 : wr.cell? ⟨w.heap.size + 1, 3, none⟩ = some (.int .i64 m.n) := KM.out.cell 3
      have r0 := KR.out.cell 0
      have r1 := KR.out.cell 1
      have r2 := KR.out.cell 2
      have r3 := KR.out.cell 3
      have f0 := KR.out.frozen 0
      have f1 := KR.out.frozen 1
      have f2 := KR.out.frozen 2
      have f3 := KR.out.frozen 3
      have HF := Lib.hid hfin
      clear hfin hj'
      simp at r0 r1 r2 r3
      go_wp2_with fail
      refine bodyPost_ret (v := m.val) (by unfold Bd.val; simp [results, Try.results140, go_sem, r0, r1, r2, r3]) rfl ⟨by rw [HF.out], ?_⟩
      exact (((hb.setCell (by simp) _).setCell (by simp) _).setCell (by simp) _).setCell (by simp) _
end Go.Proofs.Ytikjipkhebedfaa
