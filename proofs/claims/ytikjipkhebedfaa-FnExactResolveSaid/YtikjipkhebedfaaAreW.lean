/-
  Valid lists of bindings: the program's AreBindings.
-/
import Derived.Test.YtikjipkhebedfaaAreG
import Derived.Deep.RegionLaw
namespace Go.Proofs.Ytikjipkhebedfaa
open Go.RowKit

theorem infoLI : (Try.prog.info? 34).map (fun i => (i.zero, i.size, i.bytes)) = some (some (.slice none 0 0), 1, 24) := by kernel_rfl

set_option maxRecDepth 100000 in
set_option maxHeartbeats 4000000 in
theorem implAreB_any (A : Option Addr) (c : Nat) (l : List Bd) (B : Nat) (w : World) (hin : Bd.E.LIn w B A c l) (hB : B ≤ w.heap.size) :
    Calls Try.prog 78 #[.slice A l.length c] w fun e w' => e = .returned (.bool (Bd.areB l)) ∧ Below w.heap.size w w' := by
  have hcap := hin.cap
  have K : Hid (Bd.areB l = (Bd.goodL [] l && decide (l.length ≤ 1000))) := rfl
  obtain ⟨i0, hi, hz0, hz1, hz2⟩ := info_parts infoLI
  by_cases hlen : l.length ≤ 1000
  · have HL : Hid (Bd.areB l = Bd.goodL [] l) := by show _ = _; rw [K.out]; simp [hlen]
    have n1 : ¬ (1000 : Int) < (l.length : Int) := by omega
    have hmm := @run_makeMap Try.prog
    go_enter Try.func78, Try.ntmps78
    go_wp2_with fail
    go_loopw [5, 6, 13] (fun _ _ i wr => ∃ j : Nat, j ≤ l.length ∧ i = .int .i64 j ∧ Hid (Bd.goodL [] (l.take j) = true) ∧ (∃ V D, Grp wr w.heap.size j (Bd.grp (l.take j)) V D) ∧ Below w.heap.size w wr) (fun _ _ i _ => l.length - (intOf i).toNat)
    case atStart => exact ⟨0, Nat.zero_le _, rfl, by simp [Hid, Bd.goodL], ⟨_, _, Grp.new w⟩, (Below.refl _ _).alloc (Nat.le_refl _) _⟩
    case round =>
      obtain ⟨j, hj, rfl, HG, ⟨V, D, hG⟩, hb⟩ := hrel
      have hz := hb.size
      by_cases hlt : j < l.length
      · obtain ⟨b, o, rfl, hblk, c0, c1, c2, c3, hix⟩ := Bd.at_ (hin.below (hb.mono hB)) (i := j) (x := l[j]) (List.getElem?_eq_getElem hlt)
        have g2 : (j : Int) < (l.length : Int) := by omega
        have HS := Lib.hid (Bd.goodL_step hlt)
        have HST := Lib.hid (Bd.grp_step hlt)
        have HGH := Lib.hid (Bd.grp_has (l.take j) l[j])
        have htl : l[j].t.size ≤ maxLen := hix.1
        have hjm : j < maxLen := by unfold maxLen; omega
        have hgl := Bd.grp_len (l.take j) l[j].t
        have htk : (l.take j).length ≤ j := by rw [List.length_take]; omega
        have hgi : ∀ w' : World, Below w.heap.size w w' → ∀ x ∈ Bd.grp (l.take j) l[j].t, x.In w' B := fun w' hw' => Bd.grp_in (fun x hx => (hin.all x (List.mem_of_mem_take hx)).below (hw'.mono hB)) _
        obtain ⟨Av, cv, hv⟩ := hG.form l[j].t
        have hneb : some wr.heap.size ≠ (V l[j].t).ownBlock := fun e => by have := (hG.row l[j].t).lt _ e.symm; omega
        rw [hv] at hneb
        obtain ⟨W2, hW2⟩ : ∃ W2, W2 = wr.alloc (.cells #[.string l[j].t, .slice l[j].sa l[j].s.length l[j].sc, .int .i64 l[j].k, .int .i64 l[j].n] 43) := ⟨_, rfl⟩
        have bA : Below wr.heap.size wr W2 := by rw [hW2]; exact (Below.refl _ _).alloc (Nat.le_refl _) _
        have z2 : W2.heap.size = wr.heap.size + 1 := by rw [hW2]; simp
        have lt2 : wr.heap.size < W2.heap.size := by omega
        have x0 : Bd.Box W2 wr.heap.size l[j] := by rw [hW2]; exact Bd.Box.new wr l[j] _
        obtain ⟨d0, d1, d2, d3⟩ := x0
        go_wp2_with fail
        rw [← hW2]
        clear hW2
        refine (implIsB_any l[j] B _ (hix.below (bA.mono (by omega))) (by omega)).mono ?_
        rintro e w2 ⟨rfl, hb2⟩
        have zz2 := hb2.size
        have ltw : wr.heap.size < w2.heap.size := by omega
        have hb02 : Below w.heap.size w w2 := (hb.trans (bA.mono hz)).trans (hb2.mono (by omega))
        have d0 := (hb2.cell (p := ⟨wr.heap.size, 0, none⟩) lt2).trans d0
        have d1 := (hb2.cell (p := ⟨wr.heap.size, 1, none⟩) lt2).trans d1
        have d2 := (hb2.cell (p := ⟨wr.heap.size, 2, none⟩) lt2).trans d2
        have d3 := (hb2.cell (p := ⟨wr.heap.size, 3, none⟩) lt2).trans d3
        have hG2 := hG.below (bA.trans (hb2.mono (by omega)))
        cases hA : l[j].isB
        · have HN := Lib.hid (Bd.goodL_no hlt (by rw [hA]; rfl))
          clear hA
          go_wp2_with fail
          go_ret
          exact ⟨ret_bool (by rw [HL.out, HN.out]), hb02⟩
        · have HA := Lib.hid hA
          have hlk := hG2.look l[j].t htl
          rw [hv] at hlk
          clear hA
          go_wp2_with fail
          refine (containsS_any Av cv (Bd.grp (l.take j) l[j].t) l[j] wr.heap.size w2.heap.size _ (hG2.lin _ hv (Nat.le_refl _) fun x hx => IIn.more (hgi _ hb02 x hx) (by omega)) (((hin.all _ (List.getElem_mem hlt)).below (hb02.mono hB)).more (by omega)) (Nat.le_refl _) ⟨d0, d1, d2, d3⟩ (by omega)).mono ?_
          rintro e w3 ⟨rfl, hb3⟩
          have zz3 := hb3.size
          have hb03 := hb02.trans (hb3.mono (by omega))
          have d0 := (hb3.cell (p := ⟨wr.heap.size, 0, none⟩) ltw).trans d0
          have d1 := (hb3.cell (p := ⟨wr.heap.size, 1, none⟩) ltw).trans d1
          clear hlk d2 d3 c0 c1 c2 c3
          rw [HGH.out]
          cases hC : Bd.clash (l.take j) l[j]
          · have HG2 : Hid (Bd.goodL [] (l.take (j + 1)) = true) := by show _ = _; rw [HS.out, HG.out, HA.out, hC]; rfl
            have hG3 := hG2.below hb3
            clear hG hG2 hC
            have lt3 : wr.heap.size < w3.heap.size := by omega
            have hrw := hG3.row l[j].t
            have hl1 := hG3.drew.look l[j].t htl
            have hl2 := (hG3.alloc (.cells #[.slice l[j].sa l[j].s.length l[j].sc] 34)).drew.look l[j].t htl
            rw [hv] at hl1 hl2 hrw
            go_wp2_with fail
            all_goals go_region_law (refine step_append_lies _ rfl (.tmp 35) (.tmp 38) 148 rfl (w.heap.size + 1) 34 i0 (.slice none 0 0) 1 24 Try.underlying148 hi hz0 hz1 hz2 rfl (by decide) (.slice Av (Bd.grp (l.take j) l[j].t).length cv) (Bd.grp (l.take j) l[j].t).length (Iv.E.cellsL (Bd.grp (l.take j) l[j].t)) rfl (hrw.alloc _).drew ⟨w3.heap.size, 0, none⟩ 1 1 l[j].iv.cells rfl rfl (World.news_of_block (w := (w3.alloc (.cells #[.slice l[j].sa l[j].s.length l[j].sc] 34)).drew) (heap_alloc_new w3 (.cells #[.slice l[j].sa l[j].s.length l[j].sc] 34))) (Iv.E.one l[j].iv) (by decide) (by unfold maxLen; omega) (by omega) (by simp; omega) (w3.heap.size + 1) (by simp) ?_; intro g cap w4 hown4 hgr4 hat4 hlt4; obtain ⟨w5, hrun5, hb5, V5, D5, hG5⟩ := Grp.put hG3 l[j].t htl hjm hown4 (by rw [hv]; exact hgr4) (by rw [hv]; exact hat4); have d0 := hgr4.cell ((World.cell?_alloc_lt w3 _ ⟨wr.heap.size, 0, none⟩ lt3).trans d0) hneb)
            all_goals go_wp2_with fail
            all_goals refine ⟨⟨j + 1, by omega, by go_num, HG2, ⟨V5, D5, by rw [HST.out]; exact hG5⟩, hb03.trans hb5⟩, by simp [intOf]; omega⟩
          · have HN := Lib.hid (Bd.goodL_no hlt (by rw [HA.out, hC]; rfl))
            clear hC
            go_wp2_with fail
            go_ret
            exact ⟨ret_bool (by rw [HL.out, HN.out]), hb03⟩
      · have hj' : j = l.length := by omega
        subst hj'
        have HF : Hid (Bd.areB l = true) := by show _ = _; have := HG.out; rw [List.take_length] at this; rw [HL.out, this]
        go_wp2_with fail
        go_ret
        exact ⟨ret_bool HF.out.symm, hb⟩
  · have HL : Hid (Bd.areB l = false) := by show _ = _; rw [K.out]; simp [hlen]
    have n1 : (1000 : Int) < (l.length : Int) := by omega
    go_enter Try.func78, Try.ntmps78
    go_wp2_with fail
    go_ret
    exact ⟨ret_bool HL.out.symm, Below.refl _ _⟩
end Go.Proofs.Ytikjipkhebedfaa
