/-
  Copies of bindings: the model's.
-/
import Derived.Test.YtikjipkhebedfaaAddS
import Derived.Test.YtikjipkhebedfaaScSets
import Derived.Deep.RegionLaw
namespace Go.Proofs.Ytikjipkhebedfaa
open Go.RowKit

theorem AddSt.grow {W1 w w5 : World} {A : Option Addr} {c : Nat} {ds : List Bd} {d : Bd} (h : AddSt W1 w A c ds d) {g cap : Nat}
    (hown : w5.ownsRow W1.heap.size 43 4 (.slice (some ⟨g, 0, none⟩) (ds.length + 1) cap) (ds.length + 1) (Bd.E.cellsL ds ++ d.cells))
    (hgr : w.grownBy w5 (Value.slice A ds.length c).ownBlock) (hat : (Value.slice A ds.length c).ownBlock = some g ∨ g = w.heap.size) :
    w5.ownsRow W1.heap.size 43 4 (.slice (some ⟨g, 0, none⟩) (ds ++ [d]).length cap) (ds ++ [d]).length (Bd.E.cellsL (ds ++ [d])) ∧ Bd.E.OwnL W1.heap.size w5.heap.size w5 (ds ++ [d]) ∧
      (∀ q, (Value.slice (some ⟨g, 0, none⟩) (ds ++ [d]).length cap).ownBlock = some q → q ∉ Bd.E.blksL (ds ++ [d])) ∧ Below W1.heap.size W1 w5 := by
  have hk : ∀ k, k ∈ Bd.E.blksL (ds ++ [d]) → w5.heap[k]? = w.heap[k]? := fun k hk => hgr.block k (h.own.blk_lt k hk) fun e => h.ap k e.symm hk
  refine ⟨by rw [List.length_append, Elem.cellsL_append, Elem.cellsL_one]; exact hown, (h.own.keepB hk).wide (Nat.le_refl _) hgr.size, fun q hq hm => ?_, (h.done hown hgr hat).2⟩
  have e : g = q := Option.some.inj hq
  subst e
  rcases hat with e | e
  · exact h.ap g e hm
  · have := h.own.blk_lt g hm
    omega

set_option maxRecDepth 100000 in
set_option maxHeartbeats 4000000 in
theorem l3Copy_any (A : Option Addr) (c : Nat) (l : List Bd) (B : Nat) (w : World) (hbk : Bd.bulkL l ≤ 2000000) (hin : Bd.E.LIn w B A c l) (hB : B ≤ w.heap.size) :
    Calls Try.prog 73 #[.slice A l.length c] w (RetBR (Bd.erL l) w) := by
  have hcap := hin.cap
  have hll := Bd.bulkL_len l
  obtain ⟨i0, hi, hz0, hz1, hz2⟩ := info_parts infoB
  have r0 : (w.alloc (.cells #[] 43)).ownsRow w.heap.size 43 4 (.slice (some ⟨w.heap.size, 0, none⟩) 0 0) ([] : List Bd).length (Bd.E.cellsL []) := World.ownsRow_made w #[] 0 (Nat.le_refl _) (by unfold maxLen; omega) (by simp)
  go_enter Try.func73, Try.ntmps73
  go_wp2_with fail
  go_loopw [3, 5, 9] (fun v _ i wr => ∃ (j : Nat) (A' : Option Addr) (c' : Nat) (ds : List Bd), v = .slice A' ds.length c' ∧ j ≤ l.length ∧ i = .int .i64 j ∧ Hid (Bd.erL ds = Bd.erL (l.take j)) ∧ ds.length ≤ j ∧ wr.ownsRow w.heap.size 43 4 (.slice A' ds.length c') ds.length (Bd.E.cellsL ds) ∧ Bd.E.OwnL w.heap.size wr.heap.size wr ds ∧ (∀ g, (Value.slice A' ds.length c').ownBlock = some g → g ∉ Bd.E.blksL ds) ∧ Below w.heap.size w wr) (fun _ _ i _ => l.length - (intOf i).toNat)
  case atStart => exact ⟨0, some ⟨w.heap.size, 0, none⟩, 0, [], rfl, Nat.zero_le _, rfl, by simp [Bd.erL, Hid], Nat.le_refl _, r0, ⟨by simp, by simp [Elem.blksL], by simp [Elem.blksL], by simp [Elem.blksL]⟩, by simp [Elem.blksL], (Below.refl _ _).alloc (Nat.le_refl _) _⟩
  case round =>
    obtain ⟨j, A', c', ds, rfl, hj, rfl, HE, hdl, q1, q2, r3, hb⟩ := hrel
    by_cases hlt : j < l.length
    · obtain ⟨b, o, rfl, hblk, c0, c1, c2, c3, hix⟩ := Bd.at_ (hin.below (hb.mono hB)) (i := j) (x := l[j]) (List.getElem?_eq_getElem hlt)
      have hz := hb.size
      have hbk1 := Bd.bulkL_mem (l := l) (List.getElem_mem hlt)
      have hs1 : l[j].s.length ≤ 2000000 := by unfold Bd.bulk at hbk1; omega
      have hx1 := hix.1
      obtain ⟨W2, hW2⟩ : ∃ W2, W2 = wr.alloc (.cells #[.string l[j].t, .slice l[j].sa l[j].s.length l[j].sc, .int .i64 l[j].k, .int .i64 l[j].n] 43) := ⟨_, rfl⟩
      have bA : Below wr.heap.size wr W2 := by rw [hW2]; exact (Below.refl _ _).alloc (Nat.le_refl _) _
      have z2 : W2.heap.size = wr.heap.size + 1 := by rw [hW2]; simp
      have lt2 : wr.heap.size < W2.heap.size := by omega
      have y0 : Bd.Box W2 wr.heap.size l[j] := by rw [hW2]; exact Bd.Box.new wr l[j] _
      obtain ⟨d0, d1, d2, d3⟩ := y0
      have hi2 := hix.2.below (bA.mono (by omega))
      have r1 := row_below q1 bA
      have r2 := (q2.below bA).wide (lo' := w.heap.size) (hi' := W2.heap.size) (Nat.le_refl _) (by omega)
      have hbw := hb.trans (bA.mono hz)
      have q1l := q1.lt
      clear q1 q2
      go_wp2_with fail
      rw [← hW2]
      clear hW2 c0 c1 c2 c3
      go_region_held3 (fun w' => w'.cell? ⟨wr.heap.size, 0, none⟩ = some (.string l[j].t) ∧ w'.cell? ⟨wr.heap.size, 1, none⟩ = some (.slice l[j].sa l[j].s.length l[j].sc) ∧ w'.cell? ⟨wr.heap.size, 2, none⟩ = some (.int .i64 l[j].k) ∧ w'.cell? ⟨wr.heap.size, 3, none⟩ = some (.int .i64 l[j].n)) (go_keep) (first | (go_at_call 130; refine (l2Ints_any l[j].sa l[j].sc l[j].s B _ hs1 ?_ ?_).mono ?_; exact hi2.drew; (show B ≤ W2.heap.size); omega; rintro e wa ⟨A2, c2, rfl, hoi, hba⟩; have hoi : IOwn W2.heap.size wa.heap.size wa A2 c2 l[j].s := hoi; have hba : Below W2.heap.size W2 wa := below_undrew hba; have hX := AddSt.of1 (W1 := w) r1 r2 r3 hbw (bd_own (b := ⟨l[j].t, A2, c2, l[j].s, l[j].k, l[j].n⟩) hx1 hoi) hba; have lta : wr.heap.size < wa.heap.size := Nat.lt_of_lt_of_le lt2 hba.size; have d0 := (hba.cell (p := ⟨wr.heap.size, 0, none⟩) lt2).trans d0; have d1 := (hba.cell (p := ⟨wr.heap.size, 1, none⟩) lt2).trans d1; have d2 := (hba.cell (p := ⟨wr.heap.size, 2, none⟩) lt2).trans d2; have d3 := (hba.cell (p := ⟨wr.heap.size, 3, none⟩) lt2).trans d3) | (refine step_append_lies _ rfl (.tmp 13) (.tmp 24) 39 rfl w.heap.size 43 i0 (.agg #[.string ⟨#[]⟩, .slice none 0 0, .int .i64 0, .int .i64 0]) 4 56 Try.underlying39 hi hz0 hz1 hz2 rfl (by decide) (.slice A' ds.length c') ds.length (Bd.E.cellsL ds) rfl (hX.alloc _).row ⟨_, 0, none⟩ 1 1 (Bd.cells ⟨l[j].t, A2, c2, l[j].s, l[j].k, l[j].n⟩) rfl rfl (World.news_of_block (heap_alloc_new _ _)) (Bd.E.one ⟨l[j].t, A2, c2, l[j].s, l[j].k, l[j].n⟩) (by decide) (by unfold maxLen; omega) (by omega) (hX.alloc _).b.size _ rfl ?_; intro g cap w5 hown5 hgr5 hat5 hlt5; have hD := (hX.alloc _).grow hown5 hgr5 hat5; have hk5 := hgr5.block wr.heap.size (by simp; omega) (fun e => by have := q1l _ e.symm; omega); have d0 := (World.cell?_of_block (a := ⟨wr.heap.size, 0, none⟩) hk5).trans ((((Below.refl wa.heap.size wa).alloc (Nat.le_refl _) _).cell (p := ⟨wr.heap.size, 0, none⟩) lta).trans d0); have d1 := (World.cell?_of_block (a := ⟨wr.heap.size, 1, none⟩) hk5).trans ((((Below.refl wa.heap.size wa).alloc (Nat.le_refl _) _).cell (p := ⟨wr.heap.size, 1, none⟩) lta).trans d1); have d2 := (World.cell?_of_block (a := ⟨wr.heap.size, 2, none⟩) hk5).trans ((((Below.refl wa.heap.size wa).alloc (Nat.le_refl _) _).cell (p := ⟨wr.heap.size, 2, none⟩) lta).trans d2); have d3 := (World.cell?_of_block (a := ⟨wr.heap.size, 3, none⟩) hk5).trans ((((Below.refl wa.heap.size wa).alloc (Nat.le_refl _) _).cell (p := ⟨wr.heap.size, 3, none⟩) lta).trans d3)))
      obtain ⟨hD1, hD2, hD3, hD4⟩ := hD
      have hll2 : (ds ++ [(⟨l[j].t, A2, c2, l[j].s, l[j].k, l[j].n⟩ : Bd)]).length = ds.length + 1 := by simp
      have HE2 : Hid (Bd.erL (ds ++ [(⟨l[j].t, A2, c2, l[j].s, l[j].k, l[j].n⟩ : Bd)]) = Bd.erL (l.take (j + 1))) := by
        show _ = _
        rw [List.take_succ_eq_append_getElem hlt, Bd.erL_append, Bd.erL_append, HE.out]
        simp [Bd.erL, Bd.er]
      have HD1 := Lib.hid hD1
      clear hD1 d0 d1 d2 d3 hk5 hgr5 hown5 hat5 hX
      go_wp2_with fail
      refine ⟨⟨j + 1, some ⟨g, 0, none⟩, cap, ds ++ [⟨l[j].t, A2, c2, l[j].s, l[j].k, l[j].n⟩], by rw [hll2], by omega, by go_num, HE2, by rw [hll2]; omega, HD1.out, hD2, hD3, hD4⟩, by simp [intOf]; omega⟩
    · have hj' : j = l.length := by omega
      subst hj'
      have HE2 : Hid (Bd.erL ds = Bd.erL l) := by have := HE.out; rwa [List.take_length] at this
      go_wp2_with fail
      go_ret
      exact ⟨A', c', ds, rfl, HE2.out, q1, q2, r3, hb⟩
end Go.Proofs.Ytikjipkhebedfaa
