/-
  Valid lists of bindings: the program's AreBindings.
-/
import Derived.Test.YtnldlbglgalbaabGreatGBnd
import Derived.Deep.RegionLaw
import Derived.Test.YtnldlbglgalbaabGreatGWiA
import Derived.Test.YtnldlbglgalbaabGreatGRuE
import Derived.Test.YtnldlbglgalbaabGreatGExB
namespace Go.Proofs.YtnldlbglgalbaabGreat
open Go.RowKit

theorem infoLI : (Tryz.prog.info? 33).map (fun i => (i.zero, i.size, i.bytes)) = some (some (.slice none 0 0), 1, 24) := by kernel_rfl

set_option maxRecDepth 100000 in
set_option maxHeartbeats 4000000 in
theorem implAreB_any (A : Option Addr) (c : Nat) (l : List Bd) (B : Nat) (w : World) (hin : Bd.E.LIn w B A c l) (hB : B ≤ w.heap.size) :
    Calls Tryz.prog 55 #[.slice A l.length c] w fun e w' => e = .returned (.bool (Bd.areB l)) ∧ Below w.heap.size w w' := by
  have hcap := hin.cap
  have K : Hid (Bd.areB l = (Bd.goodL [] l && decide (l.length ≤ 1000))) := rfl
  obtain ⟨i0, hi, hz0, hz1, hz2⟩ := info_parts infoLI
  by_cases hlen : l.length ≤ 1000
  · have HL : Hid (Bd.areB l = Bd.goodL [] l) := by show _ = _; rw [K.out]; simp [hlen]
    have n1 : ¬ (1000 : Int) < (l.length : Int) := by omega
    have hmm := @run_makeMap Tryz.prog
    go_enter Tryz.func55, Tryz.ntmps55
    go_wp2_with fail
    go_loopw [5, 6, 13] (fun _ _ i wr => ∃ j : Nat, j ≤ l.length ∧ i = .int .i64 j ∧ Hid (Bd.goodL [] (l.take j) = true) ∧ (∃ V D, Grp wr w.heap.size j (Bd.grp (l.take j)) V D) ∧ Below w.heap.size w wr) (fun _ _ i _ => l.length - (intOf i).toNat)
    case atStart => exact ⟨0, Nat.zero_le _, rfl, by simp [Hid, Bd.goodL], ⟨_, _, Grp.new w⟩, (Below.refl _ _).alloc (Nat.le_refl _) _⟩
    case round =>
      obtain ⟨j, hj, rfl, HG, ⟨V, D, hG⟩, hb⟩ := hrel
      have hz := hb.size
      by_cases hlt : j < l.length
      · obtain ⟨b, o, rfl, hblk, c0, c1, c2, c3, hix⟩ := Bd.at_ (hin.below (hb.mono hB)) (i := j) (x := l[j]) (List.getElem?_eq_getElem hlt)
        have g2 : (j : Int) < (l.length : Int) := by omega
        have HS := Lib.hid (Bd.goodL_step hlt)
        have HST := Lib.hid (Bd.grp_step hlt)
        have HGH := Lib.hid (Bd.grp_has (l.take j) l[j])
        have htl : l[j].t.size ≤ maxLen := hix.1
        have hjm : j < maxLen := by unfold maxLen; omega
        have hgl := Bd.grp_len (l.take j) l[j].t
        have htk : (l.take j).length ≤ j := by rw [List.length_take]; omega
        have hgi : ∀ w' : World, Below w.heap.size w w' → ∀ x ∈ Bd.grp (l.take j) l[j].t, x.In w' B := fun w' hw' => Bd.grp_in (fun x hx => (hin.all x (List.mem_of_mem_take hx)).below (hw'.mono hB)) _
        obtain ⟨Av, cv, hv⟩ := hG.form l[j].t
        have hneb : some wr.heap.size ≠ (V l[j].t).ownBlock := fun e => by have := (hG.row l[j].t).lt _ e.symm; omega
        rw [hv] at hneb
        obtain ⟨W2, hW2⟩ : ∃ W2, W2 = wr.alloc (.cells #[.string l[j].t, .slice l[j].sa l[j].s.length l[j].sc, .int .i64 l[j].k, .int .i64 l[j].n] 90) := ⟨_, rfl⟩
        have bA : Below wr.heap.size wr W2 := by rw [hW2]; exact (Below.refl _ _).alloc (Nat.le_refl _) _
        have z2 : W2.heap.size = wr.heap.size + 1 := by rw [hW2]; simp
        have lt2 : wr.heap.size < W2.heap.size := by omega
        have x0 : Bd.Box W2 wr.heap.size l[j] := by rw [hW2]; exact Bd.Box.new wr l[j] _
        obtain ⟨d0, d1, d2, d3⟩ := x0
        go_wp2_with fail
        rw [← hW2]
        clear hW2
        refine (implIsB_any l[j] B _ (hix.below (bA.mono (by omega))) (by omega)).mono ?_
        rintro e w2 ⟨rfl, hb2⟩
        have zz2 := hb2.size
        have ltw : wr.heap.size < w2.heap.size := by omega
        have hb02 : Below w.heap.size w w2 := (hb.trans (bA.mono hz)).trans (hb2.mono (by omega))
        have d0 := (hb2.cell (p := ⟨wr.heap.size, 0, none⟩) lt2).trans d0
        have d1 := (hb2.cell (p := ⟨wr.heap.size, 1, none⟩) lt2).trans d1
        have d2 := (hb2.cell (p := ⟨wr.heap.size, 2, none⟩) lt2).trans d2
        have d3 := (hb2.cell (p := ⟨wr.heap.size, 3, none⟩) lt2).trans d3
        have hG2 := hG.below (bA.trans (hb2.mono (by omega)))
        cases hA : l[j].isB
        · have HN := Lib.hid (Bd.goodL_no hlt (by rw [hA]; rfl))
          clear hA
          go_wp2_with fail
          go_ret
          exact ⟨ret_bool (by rw [HL.out, HN.out]), hb02⟩
        · have HA := Lib.hid hA
          have hlk := hG2.look l[j].t htl
          rw [hv] at hlk
          clear hA
          go_wp2_with fail
          refine (containsS_any Av cv (Bd.grp (l.take j) l[j].t) l[j] wr.heap.size w2.heap.size _ (hG2.lin _ hv (Nat.le_refl _) fun x hx => IIn.more (hgi _ hb02 x hx) (by omega)) (((hin.all _ (List.getElem_mem hlt)).below (hb02.mono hB)).more (by omega)) (Nat.le_refl _) ⟨d0, d1, d2, d3⟩ (by omega)).mono ?_
          rintro e w3 ⟨rfl, hb3⟩
          have zz3 := hb3.size
          have hb03 := hb02.trans (hb3.mono (by omega))
          have d0 := (hb3.cell (p := ⟨wr.heap.size, 0, none⟩) ltw).trans d0
          have d1 := (hb3.cell (p := ⟨wr.heap.size, 1, none⟩) ltw).trans d1
          clear hlk d2 d3 c0 c1 c2 c3
          rw [HGH.out]
          cases hC : Bd.clash (l.take j) l[j]
          · have HG2 : Hid (Bd.goodL [] (l.take (j + 1)) = true) := by show _ = _; rw [HS.out, HG.out, HA.out, hC]; rfl
            have hG3 := hG2.below hb3
            clear hG hG2 hC
            have lt3 : wr.heap.size < w3.heap.size := by omega
            have hrw := hG3.row l[j].t
            have hl1 := hG3.drew.look l[j].t htl
            have hl2 := (hG3.alloc (.cells #[.slice l[j].sa l[j].s.length l[j].sc] 33)).drew.look l[j].t htl
            rw [hv] at hl1 hl2 hrw
            go_wp2_with fail
            all_goals go_region_law (refine step_append_lies _ rfl (.tmp 35) (.tmp 38) 120 rfl (w.heap.size + 1) 33 i0 (.slice none 0 0) 1 24 Tryz.underlying120 hi hz0 hz1 hz2 rfl (by decide) (.slice Av (Bd.grp (l.take j) l[j].t).length cv) (Bd.grp (l.take j) l[j].t).length (Iv.E.cellsL (Bd.grp (l.take j) l[j].t)) rfl (hrw.alloc _).drew ⟨w3.heap.size, 0, none⟩ 1 1 l[j].iv.cells rfl rfl (World.news_of_block (w := (w3.alloc (.cells #[.slice l[j].sa l[j].s.length l[j].sc] 33)).drew) (heap_alloc_new w3 (.cells #[.slice l[j].sa l[j].s.length l[j].sc] 33))) (Iv.E.one l[j].iv) (by decide) (by unfold maxLen; omega) (by omega) (by simp; omega) (w3.heap.size + 1) (by simp) ?_; intro g cap w4 hown4 hgr4 hat4 hlt4; obtain ⟨w5, hrun5, hb5, V5, D5, hG5⟩ := Grp.put hG3 l[j].t htl hjm hown4 (by rw [hv]; exact hgr4) (by rw [hv]; exact hat4); have d0 := hgr4.cell ((World.cell?_alloc_lt w3 _ ⟨wr.heap.size, 0, none⟩ lt3).trans d0) hneb)
            all_goals go_wp2_with fail
            all_goals refine ⟨⟨j + 1, by omega, by go_num, HG2, ⟨V5, D5, by rw [HST.out]; exact hG5⟩, hb03.trans hb5⟩, by simp [intOf]; omega⟩
          · have HN := Lib.hid (Bd.goodL_no hlt (by rw [HA.out, hC]; rfl))
            clear hC
            go_wp2_with fail
            go_ret
            exact ⟨ret_bool (by rw [HL.out, HN.out]), hb03⟩
      · have hj' : j = l.length := by omega
        subst hj'
        have HF : Hid (Bd.areB l = true) := by show _ = _; have := HG.out; rw [List.take_length] at this; rw [HL.out, this]
        go_wp2_with fail
        go_ret
        exact ⟨ret_bool HF.out.symm, hb⟩
  · have HL : Hid (Bd.areB l = false) := by show _ = _; rw [K.out]; simp [hlen]
    have n1 : (1000 : Int) < (l.length : Int) := by omega
    go_enter Tryz.func55, Tryz.ntmps55
    go_wp2_with fail
    go_ret
    exact ⟨ret_bool HL.out.symm, Below.refl _ _⟩
end Go.Proofs.YtnldlbglgalbaabGreat

namespace Go.Proofs.YtnldlbglgalbaabGreat
open Go.RowKit
theorem Ru.bulk_le {x : Ru} (h : x.bulk ≤ 1048576) : (∀ y ∈ x.l0, y.size ≤ 2000000) ∧ (∀ y ∈ x.l1, y.size ≤ 1200000 ∧ y.bulk ≤ 1200000) ∧ (∀ y ∈ x.l2, y.size ≤ 1200000) ∧ S.sizeL x.l1 ≤ 2000000 ∧ S.sizeL x.l2 ≤ 2000000 ∧ S.sizeL x.l0 ≤ 2000000 := by
  have hb : S.bulkL x.l0 + S.bulkL x.l1 + S.bulkL x.l2 ≤ 1048576 := h
  have h0 := S.bulkL_size x.l0
  have h1 := S.bulkL_size x.l1
  have h2 := S.bulkL_size x.l2
  exact ⟨fun y hy => by have := S.bulk_in hy; omega, fun y hy => by have := S.bulk_in hy; omega, fun y hy => by have := S.bulk_in hy; omega, by omega, by omega, by omega⟩
theorem implRules_b (x : Ru) (B : Nat) (w : World) (hin : x.In w B) (hB : B ≤ w.heap.size) (hbk : x.bulk ≤ 1048576) : Calls Tryz.prog 9 #[x.val] w fun e w' => e = .returned (.bool (Ru.okI x)) ∧ Below w.heap.size w w' := by
  obtain ⟨h0, h1, h2, _⟩ := Ru.bulk_le hbk
  exact implRules_any x B w hin hB h0 (fun y hy => by have := h1 y hy; omega) (fun y hy => by have := h2 y hy; omega)
theorem specRules_b (x : Ru) (B : Nat) (w : World) (hin : x.In w B) (hB : B ≤ w.heap.size) (hbk : x.bulk ≤ 1048576) : Calls Tryz.prog 7 #[x.val] w fun e w' => e = .returned (.bool (Ru.okM x)) ∧ Below w.heap.size w w' := by
  obtain ⟨h0, h1, h2, h3, h4, _⟩ := Ru.bulk_le hbk
  exact specRules_any x B w hin hB h0 h1 h2 h3 h4

set_option maxRecDepth 100000 in
set_option maxHeartbeats 4000000 in
theorem isWithin_any (x : Ru) (n : Int) (B : Nat) (w : World) (hin : x.In w B) (hB : B ≤ w.heap.size) :
    Calls Tryz.prog 57 #[x.val, .int .i64 n] w fun e w' => e = .returned (.bool (Ru.withinR n x)) ∧ Below w.heap.size w w' := by
  have K : Hid (Ru.withinR n x = (S.withinL n x.l0 && (S.withinL n x.l1 && S.withinL n x.l2))) := rfl
  obtain ⟨W1, hW1⟩ : ∃ W1, W1 = w.alloc (.cells #[.slice x.A0 x.l0.length x.c0, .slice x.A1 x.l1.length x.c1, .slice x.A2 x.l2.length x.c2] 29) := ⟨_, rfl⟩
  have b1 : Below w.heap.size w W1 := by rw [hW1]; exact (Below.refl _ _).alloc (Nat.le_refl _) _
  have z1 : w.heap.size < W1.heap.size := by rw [hW1]; simp
  have X1 : Ru.Box W1 w.heap.size x := by rw [hW1]; exact Ru.Box.new _ _ _
  have XA := Lib.hid X1
  have HC : Hid (∀ (u : World), Below B w u → B ≤ u.heap.size → (Calls Tryz.prog 92 #[.slice x.A0 x.l0.length x.c0, .int .i64 n] u fun e w' => e = .returned (.bool (S.withinL n x.l0)) ∧ Below u.heap.size u w') ∧ (Calls Tryz.prog 92 #[.slice x.A1 x.l1.length x.c1, .int .i64 n] u fun e w' => e = .returned (.bool (S.withinL n x.l1)) ∧ Below u.heap.size u w') ∧ (Calls Tryz.prog 92 #[.slice x.A2 x.l2.length x.c2, .int .i64 n] u fun e w' => e = .returned (.bool (S.withinL n x.l2)) ∧ Below u.heap.size u w')) := fun u hu hb =>
    ⟨areWithin_any _ x.A0 x.c0 x.l0 n B u (Nat.lt_succ_self _) ((S.Row.of_itm hin.a).below hu) hb, areWithin_any _ x.A1 x.c1 x.l1 n B u (Nat.lt_succ_self _) ((S.Row.of_itm hin.b).below hu) hb, areWithin_any _ x.A2 x.c2 x.l2 n B u (Nat.lt_succ_self _) ((S.Row.of_itm hin.c).below hu) hb⟩
  obtain ⟨Y0, hY0⟩ : ∃ Y, Y = S.withinL n x.l0 := ⟨_, rfl⟩
  obtain ⟨Y1, hY1⟩ : ∃ Y, Y = S.withinL n x.l1 := ⟨_, rfl⟩
  obtain ⟨Y2, hY2⟩ : ∃ Y, Y = S.withinL n x.l2 := ⟨_, rfl⟩
  rw [← hY0, ← hY1, ← hY2] at HC K
  clear hY0 hY1 hY2
  unfold Ru.val
  obtain ⟨x0, x1, x2⟩ := X1
  cases Y0
  · have HQ : Hid (Ru.withinR n x = false) := by show _ = _; rw [K.out]; rfl
    go_enter Tryz.func57, Tryz.ntmps57
    go_upto_region 1 with fail
    rw [← hW1]
    clear hW1
    go_wp2_with fail
    clear x0 x1 x2
    refine (HC.out W1 (b1.mono hB) (by omega)).1.mono ?_
    rintro e w2 ⟨rfl, hb2⟩
    have z2 := hb2.size
    have b2 := b1.trans (hb2.mono (by omega))
    have X2 := XA.out.below hb2 (by omega)
    have X2q := X2
    obtain ⟨x0, x1, x2⟩ := X2q
    go_wp2_with fail
    go_ret
    exact ⟨ret_bool HQ.out.symm, b2⟩
  cases Y1
  · have HQ : Hid (Ru.withinR n x = false) := by show _ = _; rw [K.out]; rfl
    go_enter Tryz.func57, Tryz.ntmps57
    go_upto_region 1 with fail
    rw [← hW1]
    clear hW1
    go_wp2_with fail
    clear x0 x1 x2
    refine (HC.out W1 (b1.mono hB) (by omega)).1.mono ?_
    rintro e w2 ⟨rfl, hb2⟩
    have z2 := hb2.size
    have b2 := b1.trans (hb2.mono (by omega))
    have X2 := XA.out.below hb2 (by omega)
    have X2q := X2
    obtain ⟨x0, x1, x2⟩ := X2q
    go_wp2_with fail
    clear x0 x1 x2
    refine (HC.out w2 (b2.mono hB) (by omega)).2.1.mono ?_
    rintro e w3 ⟨rfl, hb3⟩
    have z3 := hb3.size
    have b3 := b2.trans (hb3.mono (by omega))
    have X3 := X2.below hb3 (by omega)
    have X3q := X3
    obtain ⟨x0, x1, x2⟩ := X3q
    go_wp2_with fail
    go_ret
    exact ⟨ret_bool HQ.out.symm, b3⟩
  cases Y2
  · have HQ : Hid (Ru.withinR n x = false) := by show _ = _; rw [K.out]; rfl
    go_enter Tryz.func57, Tryz.ntmps57
    go_upto_region 1 with fail
    rw [← hW1]
    clear hW1
    go_wp2_with fail
    clear x0 x1 x2
    refine (HC.out W1 (b1.mono hB) (by omega)).1.mono ?_
    rintro e w2 ⟨rfl, hb2⟩
    have z2 := hb2.size
    have b2 := b1.trans (hb2.mono (by omega))
    have X2 := XA.out.below hb2 (by omega)
    have X2q := X2
    obtain ⟨x0, x1, x2⟩ := X2q
    go_wp2_with fail
    clear x0 x1 x2
    refine (HC.out w2 (b2.mono hB) (by omega)).2.1.mono ?_
    rintro e w3 ⟨rfl, hb3⟩
    have z3 := hb3.size
    have b3 := b2.trans (hb3.mono (by omega))
    have X3 := X2.below hb3 (by omega)
    have X3q := X3
    obtain ⟨x0, x1, x2⟩ := X3q
    go_wp2_with fail
    clear x0 x1 x2
    refine (HC.out w3 (b3.mono hB) (by omega)).2.2.mono ?_
    rintro e w4 ⟨rfl, hb4⟩
    have z4 := hb4.size
    have b4 := b3.trans (hb4.mono (by omega))
    have X4 := X3.below hb4 (by omega)
    have X4q := X4
    obtain ⟨x0, x1, x2⟩ := X4q
    go_wp2_with fail
    go_ret
    exact ⟨ret_bool HQ.out.symm, b4⟩
  · have HQ : Hid (Ru.withinR n x = true) := by show _ = _; rw [K.out]; rfl
    go_enter Tryz.func57, Tryz.ntmps57
    go_upto_region 1 with fail
    rw [← hW1]
    clear hW1
    go_wp2_with fail
    clear x0 x1 x2
    refine (HC.out W1 (b1.mono hB) (by omega)).1.mono ?_
    rintro e w2 ⟨rfl, hb2⟩
    have z2 := hb2.size
    have b2 := b1.trans (hb2.mono (by omega))
    have X2 := XA.out.below hb2 (by omega)
    have X2q := X2
    obtain ⟨x0, x1, x2⟩ := X2q
    go_wp2_with fail
    clear x0 x1 x2
    refine (HC.out w2 (b2.mono hB) (by omega)).2.1.mono ?_
    rintro e w3 ⟨rfl, hb3⟩
    have z3 := hb3.size
    have b3 := b2.trans (hb3.mono (by omega))
    have X3 := X2.below hb3 (by omega)
    have X3q := X3
    obtain ⟨x0, x1, x2⟩ := X3q
    go_wp2_with fail
    clear x0 x1 x2
    refine (HC.out w3 (b3.mono hB) (by omega)).2.2.mono ?_
    rintro e w4 ⟨rfl, hb4⟩
    have z4 := hb4.size
    have b4 := b3.trans (hb4.mono (by omega))
    have X4 := X3.below hb4 (by omega)
    have X4q := X4
    obtain ⟨x0, x1, x2⟩ := X4q
    go_wp2_with fail
    go_ret
    exact ⟨ret_bool HQ.out.symm, b4⟩

/-- What a binding binds is known. -/
def Ex.mean (x : Ex) (b : Bd) : Bool := if b.k = 3 then decide (b.n ≤ x.v) else if b.k = 4 then decide (b.n < x.l1.length) else true
set_option maxRecDepth 100000 in
set_option maxHeartbeats 4000000 in
theorem hasMeaning_any (x : Ex) (b : Bd) (w : World) : Calls Tryz.prog 60 #[x.val, b.val] w fun e w' => e = .returned (.bool (x.mean b)) ∧ Below w.heap.size w w' := by
  have K : Hid (x.mean b = if b.k = 3 then decide (b.n ≤ x.v) else if b.k = 4 then decide (b.n < (x.l1.length : Int)) else true) := rfl
  obtain ⟨W1, hW1⟩ : ∃ W1, W1 = (w.alloc (.cells #[.slice x.A0 x.l0.length x.c0, .slice x.A1 x.l1.length x.c1, .int .i64 x.s, .int .i64 x.v, .int .i64 x.t] 61)).alloc (.cells #[.string b.t, .slice b.sa b.s.length b.sc, .int .i64 b.k, .int .i64 b.n] 90) := ⟨_, rfl⟩
  have b1 : Below w.heap.size w W1 := by rw [hW1]; exact ((Below.refl _ _).alloc (Nat.le_refl _) _).alloc (by simp) _
  have xa : Ex.Box W1 w.heap.size x := by rw [hW1]; exact (Ex.Box.new w x _).below ((Below.refl (w.heap.size + 1) _).alloc (by simp) _) (by omega)
  have xb : Bd.Box W1 (w.heap.size + 1) b := by rw [hW1]; have := Bd.Box.new (w.alloc (.cells #[.slice x.A0 x.l0.length x.c0, .slice x.A1 x.l1.length x.c1, .int .i64 x.s, .int .i64 x.v, .int .i64 x.t] 61)) b 90; simpa using this
  unfold Ex.val Bd.val
  obtain ⟨x0, x1, x2, x3, x4⟩ := xa
  obtain ⟨c0, c1, c2, c3⟩ := xb
  by_cases h3 : b.k = 3
  · have e3 : (b.k == 3) = true := by simp [h3]
    have HQ : Hid (x.mean b = decide (b.n ≤ x.v)) := by show _ = _; rw [K.out, if_pos h3]
    clear h3 K
    go_enter Tryz.func60, Tryz.ntmps60
    go_upto_region 1 with fail
    rw [← hW1]
    clear hW1
    go_wp2_with fail
    go_ret
    exact ⟨ret_bool HQ.out.symm, b1⟩
  · have e3 : (b.k == 3) = false := by simpa using h3
    by_cases h4 : b.k = 4
    · have e4 : (b.k == 4) = true := by simp [h4]
      have HQ : Hid (x.mean b = decide (b.n < (x.l1.length : Int))) := by show _ = _; rw [K.out, if_neg h3, if_pos h4]
      clear h3 h4 K
      go_enter Tryz.func60, Tryz.ntmps60
      go_upto_region 1 with fail
      rw [← hW1]
      clear hW1
      go_wp2_with fail
      go_ret
      exact ⟨ret_bool HQ.out.symm, b1⟩
    · have e4 : (b.k == 4) = false := by simpa using h4
      have HQ : Hid (x.mean b = true) := by show _ = _; rw [K.out, if_neg h3, if_neg h4]
      clear h3 h4 K
      go_enter Tryz.func60, Tryz.ntmps60
      go_upto_region 1 with fail
      rw [← hW1]
      clear hW1
      go_wp2_with fail
      go_ret
      exact ⟨ret_bool HQ.out.symm, b1⟩

set_option maxRecDepth 100000 in
set_option maxHeartbeats 4000000 in
theorem bad1_any (r : Ru) (n : Int) (g B : Nat) (w : World) (hin : r.In w B) (hB : B ≤ w.heap.size) (hbk : r.bulk ≤ 1048576) (hg : g < w.heap.size) (hc : w.cell? ⟨g, 2, none⟩ = some (.int .i64 n)) :
    Calls Tryz.prog 56 #[r.val, .pointer (some ⟨g, 0, none⟩)] w fun e w' => e = .returned (.bool (!(Ru.okI r && Ru.withinR n r))) ∧ Below w.heap.size w w' := by
  obtain ⟨W1, hW1⟩ : ∃ W1, W1 = w.alloc (.cells #[.slice r.A0 r.l0.length r.c0, .slice r.A1 r.l1.length r.c1, .slice r.A2 r.l2.length r.c2] 29) := ⟨_, rfl⟩
  have b1 : Below w.heap.size w W1 := by rw [hW1]; exact (Below.refl _ _).alloc (Nat.le_refl _) _
  have z1 : w.heap.size < W1.heap.size := by rw [hW1]; simp
  have X1 : Ru.Box W1 w.heap.size r := by rw [hW1]; exact Ru.Box.new _ _ _
  have XA := Lib.hid X1
  have hi1 := hin.below (b1.mono hB)
  have hk := implRules_b r B W1 hi1 (by omega) hbk
  obtain ⟨OK, hOK⟩ : ∃ z, z = Ru.okI r := ⟨_, rfl⟩
  have hw : ∀ u, r.In u B → B ≤ u.heap.size → Calls Tryz.prog 57 #[r.val, .int .i64 n] u fun e w' => e = .returned (.bool (Ru.withinR n r)) ∧ Below u.heap.size u w' := fun u h1 h2 => isWithin_any r n B u h1 h2
  obtain ⟨WI, hWI⟩ : ∃ z, z = Ru.withinR n r := ⟨_, rfl⟩
  rw [← hWI] at hw ⊢
  clear hWI
  rw [← hOK] at hk ⊢
  clear hOK
  unfold Ru.val at hk hw ⊢
  have HW := Lib.hid hw
  clear hw
  have HK := Lib.hid hk
  clear hk
  obtain ⟨x0, x1, x2⟩ := X1
  go_enter Tryz.func56, Tryz.ntmps56
  go_upto_region 1 with fail
  rw [← hW1]
  clear hW1
  go_wp2_with fail
  clear x0 x1 x2
  refine HK.out.mono ?_
  rintro e w2 ⟨rfl, hb2⟩
  have z2 := hb2.size
  have b2 := b1.trans (hb2.mono (by omega))
  cases OK
  · go_wp2_with fail
    go_ret
    exact ⟨rfl, b2⟩
  · have X2 := XA.out.below hb2 (by omega)
    have hi2 := hi1.below (hb2.mono (by omega))
    have c2 := (b2.cell (p := ⟨g, 2, none⟩) hg).trans hc
    obtain ⟨x0, x1, x2⟩ := X2
    go_wp2_with fail
    clear x0 x1 x2 c2
    refine (HW.out w2 hi2 (by omega)).mono ?_
    rintro e w3 ⟨rfl, hb3⟩
    go_wp2_with fail
    go_ret
    exact ⟨ret_bool (by rw [Bool.true_and]), b2.trans (hb3.mono (by omega))⟩

set_option maxRecDepth 100000 in
set_option maxHeartbeats 4000000 in
theorem beyond1_any (x : Ex) (b : Bd) (g B : Nat) (w : World) (hb : Bd.E.In w B b) (hB : B ≤ w.heap.size) (hg : g < w.heap.size) (hx : Ex.Box w g x) :
    Calls Tryz.prog 58 #[b.val, .pointer (some ⟨g, 0, none⟩)] w fun e w' => e = .returned (.bool (decide (S.lastS b.s > x.s) || !x.mean b)) ∧ Below w.heap.size w w' := by
  obtain ⟨W1, hW1⟩ : ∃ W1, W1 = w.alloc (.cells #[.string b.t, .slice b.sa b.s.length b.sc, .int .i64 b.k, .int .i64 b.n] 90) := ⟨_, rfl⟩
  have b1 : Below w.heap.size w W1 := by rw [hW1]; exact (Below.refl _ _).alloc (Nat.le_refl _) _
  have z1 : w.heap.size < W1.heap.size := by rw [hW1]; simp
  have X1 : Bd.Box W1 w.heap.size b := by rw [hW1]; exact Bd.Box.new _ _ _
  have X2 := hx.below b1 hg
  have hB1 : B ≤ W1.heap.size := by omega
  have hg1 : g < W1.heap.size := by omega
  have hs : IIn W1 B b.sa b.sc b.s := (show Bd.In w B b from hb).2.below (b1.mono hB)
  have HL : Hid (∀ z : Near W1, Calls Tryz.prog 59 #[.slice b.sa b.s.length b.sc] z.at_ fun e w' => e = .returned (.int .i64 (S.lastS b.s)) ∧ Below z.at_.heap.size z.at_ w') := fun z => lastScope_any b.sa b.sc b.s B z.at_ (hs.below (z.below.mono hB1)) (Nat.le_trans hB1 z.size)
  have HH : Hid (∀ z : Near W1, Calls Tryz.prog 60 #[.agg #[.slice x.A0 x.l0.length x.c0, .slice x.A1 x.l1.length x.c1, .int .i64 x.s, .int .i64 x.v, .int .i64 x.t], .agg #[.string b.t, .slice b.sa b.s.length b.sc, .int .i64 b.k, .int .i64 b.n]] z.at_ fun e w' => e = .returned (.bool (x.mean b)) ∧ Below z.at_.heap.size z.at_ w') := fun z => hasMeaning_any x b z.at_
  obtain ⟨L, hL⟩ : ∃ L, L = S.lastS b.s := ⟨_, rfl⟩
  obtain ⟨M, hM⟩ : ∃ M, M = x.mean b := ⟨_, rfl⟩
  rw [← hL] at HL ⊢
  rw [← hM] at HH ⊢
  clear hL hM hs
  obtain ⟨x0, x1, x2, x3, x4⟩ := X2
  obtain ⟨c0, c1, c2, c3⟩ := X1
  have xx0 : ∀ z : Near W1, z.at_.cell? ⟨g, 0, none⟩ = some (.slice x.A0 x.l0.length x.c0) := fun z => z.cell 0 x0 hg1
  have xx1 : ∀ z : Near W1, z.at_.cell? ⟨g, 1, none⟩ = some (.slice x.A1 x.l1.length x.c1) := fun z => z.cell 1 x1 hg1
  have xx2 : ∀ z : Near W1, z.at_.cell? ⟨g, 2, none⟩ = some (.int .i64 x.s) := fun z => z.cell 2 x2 hg1
  have xx3 : ∀ z : Near W1, z.at_.cell? ⟨g, 3, none⟩ = some (.int .i64 x.v) := fun z => z.cell 3 x3 hg1
  have xx4 : ∀ z : Near W1, z.at_.cell? ⟨g, 4, none⟩ = some (.int .i64 x.t) := fun z => z.cell 4 x4 hg1
  have cc0 : ∀ z : Near W1, z.at_.cell? ⟨w.heap.size, 0, none⟩ = some (.string b.t) := fun z => z.cell 0 c0 z1
  have cc1 : ∀ z : Near W1, z.at_.cell? ⟨w.heap.size, 1, none⟩ = some (.slice b.sa b.s.length b.sc) := fun z => z.cell 1 c1 z1
  have cc2 : ∀ z : Near W1, z.at_.cell? ⟨w.heap.size, 2, none⟩ = some (.int .i64 b.k) := fun z => z.cell 2 c2 z1
  have cc3 : ∀ z : Near W1, z.at_.cell? ⟨w.heap.size, 3, none⟩ = some (.int .i64 b.n) := fun z => z.cell 3 c3 z1
  clear x0 x1 x2 x3 x4 c0 c1 c2 c3
  unfold Bd.val
  by_cases hq : L > x.s
  · have hq2 : decide (L > x.s) = true := decide_eq_true hq
    clear hq
    go_enter Tryz.func58, Tryz.ntmps58
    go_upto_region 1 with fail
    rw [← hW1]
    clear hW1
    refine wp_region_near (by kernel_rfl) (by kernel_rfl) ?_
    repeat (go_big_quiet_step ((first | (go_at_call 59; with_reducible exact Calls.near (HL.out _)) | (go_at_call 60; with_reducible exact Calls.near (HH.out _)))))
    refine wpQuiet_nil ?_
    intro _ hw1
    obtain ⟨nx, hw2⟩ := hw1
    subst hw2
    go_wp2_with fail
    go_ret
    exact ⟨ret_bool (by rw [hq2]; rfl), b1.trans (nx.below.mono (by omega))⟩
  · have hq2 : decide (L > x.s) = false := decide_eq_false hq
    clear hq
    cases M
    · go_enter Tryz.func58, Tryz.ntmps58
      go_upto_region 1 with fail
      rw [← hW1]
      clear hW1
      refine wp_region_near (by kernel_rfl) (by kernel_rfl) ?_
      repeat (go_big_quiet_step ((first | (go_at_call 59; with_reducible exact Calls.near (HL.out _)) | (go_at_call 60; with_reducible exact Calls.near (HH.out _)))))
      refine wpQuiet_nil ?_
      intro _ hw1
      obtain ⟨nx, hw2⟩ := hw1
      subst hw2
      go_wp2_with fail
      go_ret
      exact ⟨ret_bool (by rw [hq2]; rfl), b1.trans (nx.below.mono (by omega))⟩
    · go_enter Tryz.func58, Tryz.ntmps58
      go_upto_region 1 with fail
      rw [← hW1]
      clear hW1
      refine wp_region_near (by kernel_rfl) (by kernel_rfl) ?_
      repeat (go_big_quiet_step ((first | (go_at_call 59; with_reducible exact Calls.near (HL.out _)) | (go_at_call 60; with_reducible exact Calls.near (HH.out _)))))
      refine wpQuiet_nil ?_
      intro _ hw1
      obtain ⟨nx, hw2⟩ := hw1
      subst hw2
      go_wp2_with fail
      go_ret
      exact ⟨ret_bool (by rw [hq2]; rfl), b1.trans (nx.below.mono (by omega))⟩
def Ru.bad (n : Int) (r : Ru) : Bool := !(Ru.okI r && Ru.withinR n r)
def Ex.beyond (x : Ex) (b : Bd) : Bool := decide (S.lastS b.s > x.s) || !x.mean b
set_option maxRecDepth 100000 in
set_option maxHeartbeats 4000000 in
theorem conBad_any (A : Option Addr) (c : Nat) (l : List Ru) (n : Int) (g B : Nat) (w : World) (hin : Ru.E.LIn w B A c l) (hB : B ≤ w.heap.size) (hg : g < w.heap.size) (hbk : ∀ x ∈ l, x.bulk ≤ 1048576) (hcg : w.cell? ⟨g, 2, none⟩ = some (.int .i64 n)) :
    Calls Tryz.prog 61 #[.slice A l.length c, .func (.func 56) #[] #[.pointer (some ⟨g, 0, none⟩)]] w fun e w' => e = .returned (.bool (l.any (Ru.bad n))) ∧ Below w.heap.size w w' := by
  have hcap := hin.cap
  have key : Calls Tryz.prog 93 #[.slice A l.length c, .func (.func 56) #[] #[.pointer (some ⟨g, 0, none⟩)]] w fun e w' => (∃ r : Int, e = .returned (.int .i64 r) ∧ decide (0 ≤ r) = l.any (Ru.bad n)) ∧ Below w.heap.size w w' := by
    go_enter Tryz.func93, Tryz.ntmps93
    go_wp2_with fail
    go_loopw [5, 8] (fun _ i wr => ∃ j : Nat, j ≤ l.length ∧ i = .int .i64 j ∧ Hid (∀ x ∈ l.take j, (Ru.bad n) x = false) ∧ Below w.heap.size w wr) (fun _ i _ => l.length - (intOf i).toNat)
    case atStart => exact ⟨0, Nat.zero_le _, rfl, by simp [Hid], Below.refl _ _⟩
    case round =>
      obtain ⟨j, hj, rfl, HN, hb⟩ := hrel
      by_cases hlt : j < l.length
      · have hsz := hb.size
        obtain ⟨b, o, rfl, hblk, c0, c1, c2, hix⟩ := Ru.at_ (hin.below (hb.mono hB)) (i := j) (x := l[j]) (List.getElem?_eq_getElem hlt)
        have g2 : (j : Int) < (l.length : Int) := by omega
        have hc := bad1_any l[j] n g B wr hix (by omega) (hbk _ (List.getElem_mem hlt)) (by omega) ((hb.cell (p := ⟨g, 2, none⟩) hg).trans hcg)
        unfold Ru.val at hc
        go_wp2_with fail
        (with_reducible refine hc.mono ?_)
        clear hc
        rintro e w1 ⟨rfl, hb1⟩
        have hb3 := hb.trans (hb1.mono (by omega))
        clear c0 c1 c2 hb1
        cases hq : (Ru.bad n) l[j]
        · have HN2 : Hid (∀ x ∈ l.take (j + 1), (Ru.bad n) x = false) := none_succ hlt HN.out hq
          rw [show (!(Ru.okI l[j] && Ru.withinR n l[j])) = false from hq]
          clear hq
          go_wp2_with fail
          refine ⟨⟨j + 1, by omega, by go_num, HN2, hb3⟩, by simp [intOf]; omega⟩
        · have HY : Hid (l.any (Ru.bad n) = true) := any_yes (p := (Ru.bad n)) hlt hq
          rw [show (!(Ru.okI l[j] && Ru.withinR n l[j])) = true from hq]
          clear hq
          go_wp2_with fail
          go_ret
          exact ⟨⟨j, rfl, by rw [HY.out]; simp⟩, hb3⟩
      · have hj' : j = l.length := by omega
        subst hj'
        have HF : Hid (l.any (Ru.bad n) = false) := any_none (p := (Ru.bad n)) (by have := HN.out; rwa [List.take_length] at this)
        go_wp2_with fail
        go_ret
        exact ⟨⟨-1, rfl, by rw [HF.out]; rfl⟩, hb⟩
  go_enter Tryz.func61, Tryz.ntmps61
  go_wp2_with fail
  refine key.mono ?_
  rintro e w1 ⟨⟨r, rfl, hr⟩, hb1⟩
  have HR := Lib.hid hr
  clear hr key
  go_wp2_with fail
  go_ret
  exact ⟨ret_bool HR.out, hb1⟩

set_option maxRecDepth 100000 in
set_option maxHeartbeats 4000000 in
theorem conBeyond_any (A : Option Addr) (c : Nat) (l : List Bd) (y : Ex) (g B : Nat) (w : World) (hin : Bd.E.LIn w B A c l) (hB : B ≤ w.heap.size) (hg : g < w.heap.size) (hx : Ex.Box w g y) :
    Calls Tryz.prog 62 #[.slice A l.length c, .func (.func 58) #[] #[.pointer (some ⟨g, 0, none⟩)]] w fun e w' => e = .returned (.bool (l.any (Ex.beyond y))) ∧ Below w.heap.size w w' := by
  have hcap := hin.cap
  have key : Calls Tryz.prog 94 #[.slice A l.length c, .func (.func 58) #[] #[.pointer (some ⟨g, 0, none⟩)]] w fun e w' => (∃ r : Int, e = .returned (.int .i64 r) ∧ decide (0 ≤ r) = l.any (Ex.beyond y)) ∧ Below w.heap.size w w' := by
    go_enter Tryz.func94, Tryz.ntmps94
    go_wp2_with fail
    go_loopw [5, 8] (fun _ i wr => ∃ j : Nat, j ≤ l.length ∧ i = .int .i64 j ∧ Hid (∀ x ∈ l.take j, (Ex.beyond y) x = false) ∧ Below w.heap.size w wr) (fun _ i _ => l.length - (intOf i).toNat)
    case atStart => exact ⟨0, Nat.zero_le _, rfl, by simp [Hid], Below.refl _ _⟩
    case round =>
      obtain ⟨j, hj, rfl, HN, hb⟩ := hrel
      by_cases hlt : j < l.length
      · have hsz := hb.size
        obtain ⟨b, o, rfl, hblk, c0, c1, c2, c3, hix⟩ := Bd.at_ (hin.below (hb.mono hB)) (i := j) (x := l[j]) (List.getElem?_eq_getElem hlt)
        have g2 : (j : Int) < (l.length : Int) := by omega
        have hc := beyond1_any y l[j] g B wr hix (by omega) (by omega) (hx.below hb hg)
        unfold Bd.val at hc
        go_wp2_with fail
        (with_reducible refine hc.mono ?_)
        clear hc
        rintro e w1 ⟨rfl, hb1⟩
        have hb3 := hb.trans (hb1.mono (by omega))
        clear c0 c1 c2 c3 hb1
        cases hq : (Ex.beyond y) l[j]
        · have HN2 : Hid (∀ x ∈ l.take (j + 1), (Ex.beyond y) x = false) := none_succ hlt HN.out hq
          rw [show (decide (S.lastS l[j].s > y.s) || !y.mean l[j]) = false from hq]
          clear hq
          go_wp2_with fail
          refine ⟨⟨j + 1, by omega, by go_num, HN2, hb3⟩, by simp [intOf]; omega⟩
        · have HY : Hid (l.any (Ex.beyond y) = true) := any_yes (p := (Ex.beyond y)) hlt hq
          rw [show (decide (S.lastS l[j].s > y.s) || !y.mean l[j]) = true from hq]
          clear hq
          go_wp2_with fail
          go_ret
          exact ⟨⟨j, rfl, by rw [HY.out]; simp⟩, hb3⟩
      · have hj' : j = l.length := by omega
        subst hj'
        have HF : Hid (l.any (Ex.beyond y) = false) := any_none (p := (Ex.beyond y)) (by have := HN.out; rwa [List.take_length] at this)
        go_wp2_with fail
        go_ret
        exact ⟨⟨-1, rfl, by rw [HF.out]; rfl⟩, hb⟩
  go_enter Tryz.func62, Tryz.ntmps62
  go_wp2_with fail
  refine key.mono ?_
  rintro e w1 ⟨⟨r, rfl, hr⟩, hb1⟩
  have HR := Lib.hid hr
  clear hr key
  go_wp2_with fail
  go_ret
  exact ⟨ret_bool HR.out, hb1⟩

end Go.Proofs.YtnldlbglgalbaabGreat

namespace Go.Proofs.YtnldlbglgalbaabGreat
open Go.RowKit
namespace Ex
def okH (x : Ex) : Bool := decide (0 ≤ x.s ∧ x.s ≤ 99999) && (decide (0 ≤ x.v ∧ x.v ≤ 99999) && decide (0 ≤ x.t ∧ x.t ≤ 200))
/-- A valid expander. -/
def okE (x : Ex) : Bool := okH x && ((decide (x.l1.length ≤ 200) && Bd.areB x.l0) && (!x.l1.any (Ru.bad x.s) && !x.l0.any (Ex.beyond x)))
end Ex
set_option maxRecDepth 100000 in
set_option maxHeartbeats 4000000 in
theorem vr_any (n : Int) (w : World) : Calls Tryz.prog 54 #[.int .i64 n] w fun e w' => e = .returned (.bool (decide (0 ≤ n ∧ n ≤ 99999))) ∧ w' = w := by
  by_cases h0 : 0 ≤ n
  · by_cases h1 : n ≤ 99999
    · have e0 : decide ((0 : Int) ≤ n) = true := decide_eq_true h0
      have e1 : decide (n ≤ 99999) = true := decide_eq_true h1
      have HQ : Hid (decide (0 ≤ n ∧ n ≤ 99999) = true) := decide_eq_true ⟨h0, h1⟩
      go_enter Tryz.func54, Tryz.ntmps54
      go_wp2_with fail
      go_ret
      exact ⟨ret_bool HQ.out.symm, rfl⟩
    · have e1 : decide (n ≤ 99999) = false := decide_eq_false h1
      have HQ : Hid (decide (0 ≤ n ∧ n ≤ 99999) = false) := decide_eq_false (by omega)
      clear h1
      go_enter Tryz.func54, Tryz.ntmps54
      go_wp2_with fail
      go_ret
      exact ⟨ret_bool HQ.out.symm, rfl⟩
  · have e0 : decide ((0 : Int) ≤ n) = false := decide_eq_false h0
    have HQ : Hid (decide (0 ≤ n ∧ n ≤ 99999) = false) := decide_eq_false (by omega)
    clear h0
    go_enter Tryz.func54, Tryz.ntmps54
    go_wp2_with fail
    go_ret
    exact ⟨ret_bool HQ.out.symm, rfl⟩

set_option maxRecDepth 100000 in
set_option maxHeartbeats 4000000 in
theorem implEx_any (x : Ex) (B : Nat) (w : World) (hin : x.In w B) (hB : B ≤ w.heap.size) (hbk : ∀ r ∈ x.l1, r.bulk ≤ 1048576) :
    Calls Tryz.prog 27 #[x.val] w fun e w' => e = .returned (.bool (Ex.okE x)) ∧ Below w.heap.size w w' := by
  have K : Hid (Ex.okE x = (Ex.okH x && ((decide (x.l1.length ≤ 200) && Bd.areB x.l0) && (!x.l1.any (Ru.bad x.s) && !x.l0.any (Ex.beyond x))))) := rfl
  have KH : Hid (Ex.okH x = (decide (0 ≤ x.s ∧ x.s ≤ 99999) && (decide (0 ≤ x.v ∧ x.v ≤ 99999) && decide (0 ≤ x.t ∧ x.t ≤ 200)))) := rfl
  have hmf : ∀ (fn : Fn) (first cap : Array Value) (w : World), (Instr.makeFunc fn first cap).run Tryz.prog w = .ok (.func fn first cap) w := fun _ _ _ _ => rfl
  have hca := hin.a.cap
  have hcb := hin.b.cap
  obtain ⟨W1, hW1⟩ : ∃ W1, W1 = w.alloc (.cells #[.slice x.A0 x.l0.length x.c0, .slice x.A1 x.l1.length x.c1, .int .i64 x.s, .int .i64 x.v, .int .i64 x.t] 61) := ⟨_, rfl⟩
  have b1 : Below w.heap.size w W1 := by rw [hW1]; exact (Below.refl _ _).alloc (Nat.le_refl _) _
  have z1 : w.heap.size < W1.heap.size := by rw [hW1]; simp
  have X1 : Ex.Box W1 w.heap.size x := by rw [hW1]; exact Ex.Box.new _ _ _
  have XA := Lib.hid X1
  have HV : Hid (∀ u, Calls Tryz.prog 54 #[.int .i64 x.v] u fun e w' => e = .returned (.bool (decide (0 ≤ x.v ∧ x.v ≤ 99999))) ∧ w' = u) := fun u => vr_any x.v u
  have HA : Hid (∀ u, Below B w u → B ≤ u.heap.size → Calls Tryz.prog 55 #[.slice x.A0 x.l0.length x.c0] u fun e w' => e = .returned (.bool (Bd.areB x.l0)) ∧ Below u.heap.size u w') := fun u h1 h2 => implAreB_any x.A0 x.c0 x.l0 B u (hin.a.below h1) h2
  have HR : Hid (∀ u, Below B w u → B ≤ u.heap.size → Ex.Box u w.heap.size x → w.heap.size < u.heap.size → Calls Tryz.prog 61 #[.slice x.A1 x.l1.length x.c1, .func (.func 56) #[] #[.pointer (some ⟨w.heap.size, 0, none⟩)]] u fun e w' => e = .returned (.bool (x.l1.any (Ru.bad x.s))) ∧ Below u.heap.size u w') := fun u h1 h2 h3 h4 => conBad_any x.A1 x.c1 x.l1 x.s w.heap.size B u (hin.b.below h1) h2 h4 hbk h3.x2
  have HY : Hid (∀ u, Below B w u → B ≤ u.heap.size → Ex.Box u w.heap.size x → w.heap.size < u.heap.size → Calls Tryz.prog 62 #[.slice x.A0 x.l0.length x.c0, .func (.func 58) #[] #[.pointer (some ⟨w.heap.size, 0, none⟩)]] u fun e w' => e = .returned (.bool (x.l0.any (Ex.beyond x))) ∧ Below u.heap.size u w') := fun u h1 h2 h3 h4 => conBeyond_any x.A0 x.c0 x.l0 x w.heap.size B u (hin.a.below h1) h2 h4 h3
  obtain ⟨V, hV⟩ : ∃ V, V = decide (0 ≤ x.v ∧ x.v ≤ 99999) := ⟨_, rfl⟩
  obtain ⟨AA, hAA⟩ : ∃ V, V = Bd.areB x.l0 := ⟨_, rfl⟩
  obtain ⟨RR, hRR⟩ : ∃ V, V = x.l1.any (Ru.bad x.s) := ⟨_, rfl⟩
  obtain ⟨YY, hYY⟩ : ∃ V, V = x.l0.any (Ex.beyond x) := ⟨_, rfl⟩
  rw [← hV] at HV KH
  rw [← hAA] at HA K
  rw [← hRR] at HR K
  rw [← hYY] at HY K
  clear hV hAA hRR hYY hbk
  unfold Ex.val
  obtain ⟨x0, x1, x2, x3, x4⟩ := X1
  by_cases h1 : x.s < 0
  · have g1 : decide (x.s < 0) = true := decide_eq_true h1
    have HQ : Hid (Ex.okE x = false) := by show _ = _; rw [K.out, KH.out, decide_eq_false (p := 0 ≤ x.s ∧ x.s ≤ 99999) (by omega)]; simp
    clear K KH
    go_enter Tryz.func27, Tryz.ntmps27
    go_upto_region 1 with fail
    rw [← hW1]
    clear hW1
    go_wp2_with fail
    go_ret
    exact ⟨ret_bool HQ.out.symm, b1⟩
  have g1 : decide (x.s < 0) = false := decide_eq_false h1
  by_cases h2 : 99999 < x.s
  · have g2 : decide (x.s > 99999) = true := decide_eq_true h2
    have HQ : Hid (Ex.okE x = false) := by show _ = _; rw [K.out, KH.out, decide_eq_false (p := 0 ≤ x.s ∧ x.s ≤ 99999) (by omega)]; simp
    clear K KH
    go_enter Tryz.func27, Tryz.ntmps27
    go_upto_region 1 with fail
    rw [← hW1]
    clear hW1
    go_wp2_with fail
    go_ret
    exact ⟨ret_bool HQ.out.symm, b1⟩
  have g2 : decide (x.s > 99999) = false := decide_eq_false h2
  have q1 : (0 ≤ x.s ∧ x.s ≤ 99999) := by omega
  cases V
  · skip
    have HQ : Hid (Ex.okE x = false) := by show _ = _; rw [K.out, KH.out]; simp
    clear K KH
    go_enter Tryz.func27, Tryz.ntmps27
    go_upto_region 1 with fail
    rw [← hW1]
    clear hW1
    go_wp2_with fail
    refine (HV.out _).mono ?_
    rintro e w2 ⟨rfl, rfl⟩
    go_wp2_with fail
    go_ret
    exact ⟨ret_bool HQ.out.symm, b1⟩
  · skip
    by_cases h3 : x.t < 0
    · have g3 : decide (x.t < 0) = true := decide_eq_true h3
      have HQ : Hid (Ex.okE x = false) := by show _ = _; rw [K.out, KH.out, decide_eq_false (p := 0 ≤ x.t ∧ x.t ≤ 200) (by omega)]; simp
      clear K KH
      go_enter Tryz.func27, Tryz.ntmps27
      go_upto_region 1 with fail
      rw [← hW1]
      clear hW1
      go_wp2_with fail
      refine (HV.out _).mono ?_
      rintro e w2 ⟨rfl, rfl⟩
      go_wp2_with fail
      go_ret
      exact ⟨ret_bool HQ.out.symm, b1⟩
    have g3 : decide (x.t < 0) = false := decide_eq_false h3
    by_cases h4 : 200 < x.t
    · have g4 : decide (x.t > 200) = true := decide_eq_true h4
      have HQ : Hid (Ex.okE x = false) := by show _ = _; rw [K.out, KH.out, decide_eq_false (p := 0 ≤ x.t ∧ x.t ≤ 200) (by omega)]; simp
      clear K KH
      go_enter Tryz.func27, Tryz.ntmps27
      go_upto_region 1 with fail
      rw [← hW1]
      clear hW1
      go_wp2_with fail
      refine (HV.out _).mono ?_
      rintro e w2 ⟨rfl, rfl⟩
      go_wp2_with fail
      go_ret
      exact ⟨ret_bool HQ.out.symm, b1⟩
    have g4 : decide (x.t > 200) = false := decide_eq_false h4
    have q2 : (0 ≤ x.t ∧ x.t ≤ 200) := by omega
    by_cases h5 : 200 < x.l1.length
    · have g5 : decide ((x.l1.length : Int) > 200) = true := decide_eq_true (by omega)
      have HQ : Hid (Ex.okE x = false) := by show _ = _; rw [K.out, decide_eq_false (p := x.l1.length ≤ 200) (by omega)]; simp
      clear K KH
      go_enter Tryz.func27, Tryz.ntmps27
      go_upto_region 1 with fail
      rw [← hW1]
      clear hW1
      go_wp2_with fail
      refine (HV.out _).mono ?_
      rintro e w2 ⟨rfl, rfl⟩
      go_wp2_with fail
      go_ret
      exact ⟨ret_bool HQ.out.symm, b1⟩
    have g5 : decide ((x.l1.length : Int) > 200) = false := decide_eq_false (by omega)
    have q3 : x.l1.length ≤ 200 := by omega
    have HKK : Hid (Ex.okE x = (AA && (!RR && !YY))) := by show _ = _; rw [K.out, KH.out, decide_eq_true q1, decide_eq_true q2, decide_eq_true q3]; rfl
    clear q1 q2 q3
    cases AA
    · skip
      have HQ : Hid (Ex.okE x = false) := by show _ = _; rw [HKK.out]; rfl
      clear K KH
      go_enter Tryz.func27, Tryz.ntmps27
      go_upto_region 1 with fail
      rw [← hW1]
      clear hW1
      go_wp2_with fail
      refine (HV.out _).mono ?_
      rintro e w2 ⟨rfl, rfl⟩
      go_wp2_with fail
      clear x0 x1 x2 x3 x4
      refine (HA.out w2 (b1.mono hB) (by omega)).mono ?_
      rintro e w3 ⟨rfl, hb3⟩
      have z3 := hb3.size
      have b3 := b1.trans (hb3.mono (by omega))
      have X3 := XA.out.below hb3 (by omega)
      have X3q := X3
      obtain ⟨x0, x1, x2, x3, x4⟩ := X3q
      go_wp2_with fail
      go_ret
      exact ⟨ret_bool HQ.out.symm, b3⟩
    cases RR
    · skip
      cases YY
      · have HQ : Hid (Ex.okE x = true) := by show _ = _; rw [HKK.out]; rfl
        clear K KH
        go_enter Tryz.func27, Tryz.ntmps27
        go_upto_region 1 with fail
        rw [← hW1]
        clear hW1
        go_wp2_with fail
        refine (HV.out _).mono ?_
        rintro e w2 ⟨rfl, rfl⟩
        go_wp2_with fail
        clear x0 x1 x2 x3 x4
        refine (HA.out w2 (b1.mono hB) (by omega)).mono ?_
        rintro e w3 ⟨rfl, hb3⟩
        have z3 := hb3.size
        have b3 := b1.trans (hb3.mono (by omega))
        have X3 := XA.out.below hb3 (by omega)
        have X3q := X3
        obtain ⟨x0, x1, x2, x3, x4⟩ := X3q
        go_wp2_with fail
        clear x0 x1 x2 x3 x4
        refine (HR.out w3 (b3.mono hB) (by omega) X3 (by omega)).mono ?_
        rintro e w4 ⟨rfl, hb4⟩
        have z4 := hb4.size
        have b4 := b3.trans (hb4.mono (by omega))
        have X4 := X3.below hb4 (by omega)
        have X4q := X4
        obtain ⟨x0, x1, x2, x3, x4⟩ := X4q
        go_wp2_with fail
        clear x0 x1 x2 x3 x4
        refine (HY.out w4 (b4.mono hB) (by omega) X4 (by omega)).mono ?_
        rintro e w5 ⟨rfl, hb5⟩
        have b5 := b4.trans (hb5.mono (by omega))
        go_wp2_with fail
        go_ret
        exact ⟨ret_bool HQ.out.symm, b5⟩
      · have HQ : Hid (Ex.okE x = false) := by show _ = _; rw [HKK.out]; rfl
        clear K KH
        go_enter Tryz.func27, Tryz.ntmps27
        go_upto_region 1 with fail
        rw [← hW1]
        clear hW1
        go_wp2_with fail
        refine (HV.out _).mono ?_
        rintro e w2 ⟨rfl, rfl⟩
        go_wp2_with fail
        clear x0 x1 x2 x3 x4
        refine (HA.out w2 (b1.mono hB) (by omega)).mono ?_
        rintro e w3 ⟨rfl, hb3⟩
        have z3 := hb3.size
        have b3 := b1.trans (hb3.mono (by omega))
        have X3 := XA.out.below hb3 (by omega)
        have X3q := X3
        obtain ⟨x0, x1, x2, x3, x4⟩ := X3q
        go_wp2_with fail
        clear x0 x1 x2 x3 x4
        refine (HR.out w3 (b3.mono hB) (by omega) X3 (by omega)).mono ?_
        rintro e w4 ⟨rfl, hb4⟩
        have z4 := hb4.size
        have b4 := b3.trans (hb4.mono (by omega))
        have X4 := X3.below hb4 (by omega)
        have X4q := X4
        obtain ⟨x0, x1, x2, x3, x4⟩ := X4q
        go_wp2_with fail
        clear x0 x1 x2 x3 x4
        refine (HY.out w4 (b4.mono hB) (by omega) X4 (by omega)).mono ?_
        rintro e w5 ⟨rfl, hb5⟩
        have b5 := b4.trans (hb5.mono (by omega))
        go_wp2_with fail
        go_ret
        exact ⟨ret_bool HQ.out.symm, b5⟩
    · skip
      have HQ : Hid (Ex.okE x = false) := by show _ = _; rw [HKK.out]; rfl
      clear K KH
      go_enter Tryz.func27, Tryz.ntmps27
      go_upto_region 1 with fail
      rw [← hW1]
      clear hW1
      go_wp2_with fail
      refine (HV.out _).mono ?_
      rintro e w2 ⟨rfl, rfl⟩
      go_wp2_with fail
      clear x0 x1 x2 x3 x4
      refine (HA.out w2 (b1.mono hB) (by omega)).mono ?_
      rintro e w3 ⟨rfl, hb3⟩
      have z3 := hb3.size
      have b3 := b1.trans (hb3.mono (by omega))
      have X3 := XA.out.below hb3 (by omega)
      have X3q := X3
      obtain ⟨x0, x1, x2, x3, x4⟩ := X3q
      go_wp2_with fail
      clear x0 x1 x2 x3 x4
      refine (HR.out w3 (b3.mono hB) (by omega) X3 (by omega)).mono ?_
      rintro e w4 ⟨rfl, hb4⟩
      have z4 := hb4.size
      have b4 := b3.trans (hb4.mono (by omega))
      have X4 := X3.below hb4 (by omega)
      have X4q := X4
      obtain ⟨x0, x1, x2, x3, x4⟩ := X4q
      go_wp2_with fail
      go_ret
      exact ⟨ret_bool HQ.out.symm, b4⟩
end Go.Proofs.YtnldlbglgalbaabGreat

namespace Go.Proofs.YtnldlbglgalbaabGreat
open Go.RowKit
def UpOk (m : Nat) : Prop := ∀ (d : S) (n : Int) (B : Nat) (w : World), d.size ≤ m → d.In w B → B ≤ w.heap.size → Calls Tryz.prog 86 #[d.val, .int .i64 n] w fun e w' => e = .returned (.bool (S.upto n d)) ∧ Below w.heap.size w w'
theorem S.uptoL_no {n : Int} {l : List S} {j : Nat} (h : j < l.length) (hn : S.upto n l[j] = false) : S.uptoL n l = false := by
  rw [S.uptoL_any, any_yes (p := fun d => !S.upto n d) h (by rw [hn]; rfl)]
  rfl
theorem S.uptoL_yes {n : Int} {l : List S} (h : ∀ x ∈ l, S.upto n x = true) : S.uptoL n l = true := by
  rw [S.uptoL_any, any_none (p := fun d => !S.upto n d) fun x hx => by rw [h x hx]; rfl]
  rfl
theorem all_takeU {α : Type} {p : α → Bool} {l : List α} {j : Nat} (h : j < l.length) (hn : ∀ x ∈ l.take j, p x = true) (hy : p l[j] = true) : ∀ x ∈ l.take (j + 1), p x = true := by
  intro x hx
  rw [List.take_succ_eq_append_getElem h] at hx
  rcases List.mem_append.1 hx with hx | hx
  · exact hn x hx
  · simp at hx; subst hx; exact hy
set_option maxRecDepth 100000 in
set_option maxHeartbeats 4000000 in
theorem l6Below_step (m : Nat) (ih : UpOk m) : UpOk (m + 1) := by
  intro d n B w hm hd hB
  have K : Hid (S.upto n d = ((d.s.all fun x => decide (x ≤ n)) && S.uptoL n d.l)) := S.upto_eq n d
  have hcs := hd.scopes.cap
  have hcl := hd.cap
  obtain ⟨W1, hW1⟩ : ∃ W1, W1 = w.alloc (.cells #[.int .i64 d.k, .int .i64 d.n, .string d.t, .slice d.sa d.s.length d.sc, .slice d.A d.l.length d.c] 43) := ⟨_, rfl⟩
  have b1 : Below w.heap.size w W1 := by rw [hW1]; exact (Below.refl _ _).alloc (Nat.le_refl _) _
  have z1 : w.heap.size < W1.heap.size := by rw [hW1]; simp
  have X1 : S.Box W1 w.heap.size d := by rw [hW1]; exact S.Box.new _ _ _
  have hsc := hd.scopes.below (b1.mono hB)
  unfold S.val
  obtain ⟨x0, x1, x2, x3, x4⟩ := X1
  have HX4 := Lib.hid x4
  go_enter Tryz.func86, Tryz.ntmps86
  go_upto_region 1 with fail
  rw [← hW1]
  clear hW1
  go_wp2_with fail
  clear x0 x1 x2 x3 x4
  go_loopw [12] (fun i wr => ∃ j : Nat, j ≤ d.s.length ∧ i = .int .i64 j ∧ Hid (∀ x ∈ d.s.take j, decide (x ≤ n) = true) ∧ Below W1.heap.size W1 wr) (fun i _ => d.s.length - (intOf i).toNat)
  case atStart => exact ⟨0, Nat.zero_le _, rfl, by simp [Hid], Below.refl _ _⟩
  case round =>
    obtain ⟨j, hj, rfl, HN, hb⟩ := hrel
    have hs2 := hb.size
    have bw := b1.trans (hb.mono (by omega))
    by_cases hlt : j < d.s.length
    · obtain ⟨sb, so, hA, hsb, c0⟩ := (hsc.below (hb.mono (by omega))).at_ hlt
      have g1 : (j : Int) < (d.s.length : Int) := by omega
      rw [hA]
      by_cases hq : n < d.s[j]
      · have hq2 : decide (d.s[j] > n) = true := decide_eq_true hq
        have HQ : Hid (S.upto n d = false) := by
          show _ = _
          rw [K.out]
          have : (d.s.all fun x => decide (x ≤ n)) = false := by rw [List.all_eq_false]; exact ⟨d.s[j], List.getElem_mem hlt, by simpa using hq⟩
          rw [this]; rfl
        clear hq
        go_wp2_with fail
        go_ret
        exact ⟨ret_bool HQ.out.symm, bw⟩
      · have hq2 : decide (d.s[j] > n) = false := decide_eq_false hq
        have HN2 : Hid (∀ x ∈ d.s.take (j + 1), decide (x ≤ n) = true) := all_takeU (p := fun x => decide (x ≤ n)) hlt HN.out (decide_eq_true (by omega))
        clear hq
        go_wp2_with fail
        exact ⟨⟨j + 1, by omega, by go_num, HN2, hb⟩, by simp [intOf]; omega⟩
    · have hj' : j = d.s.length := by omega
      have HS : Hid (S.upto n d = S.uptoL n d.l) := by
        show _ = _
        rw [K.out]
        have : (d.s.all fun x => decide (x ≤ n)) = true := by
          rw [List.all_eq_true]
          have h := HN.out
          rw [hj', List.take_length] at h
          exact h
        rw [this, Bool.true_and]
      have y4 := (hb.cell (p := ⟨w.heap.size, 4, none⟩) (show w.heap.size < _ by omega)).trans HX4.out
      clear HN hj hj'
      go_wp2_with fail
      clear y4
      go_loopw [23] (fun i w3 => ∃ q : Nat, q ≤ d.l.length ∧ i = .int .i64 q ∧ Hid (∀ x ∈ d.l.take q, S.upto n x = true) ∧ Below wr.heap.size wr w3) (fun i _ => d.l.length - (intOf i).toNat)
      case atStart => exact ⟨0, Nat.zero_le _, rfl, by simp [Hid], Below.refl _ _⟩
      case round =>
        obtain ⟨q, hq, rfl, HM, hb3⟩ := hrel
        have hs3 := hb3.size
        have bw3 := bw.trans (hb3.mono (by omega))
        by_cases hlt2 : q < d.l.length
        · obtain ⟨pb, po, hA, hblk, c0, c1, c2, c3, c4, hix⟩ := (hd.below (bw3.mono hB)).at_ (i := q) (x := d.l[q]) (List.getElem?_eq_getElem hlt2)
          have g1 : (q : Int) < (d.l.length : Int) := by omega
          have hsz := S.size_item (d := d) (x := d.l[q]) (List.getElem_mem hlt2)
          rw [hA]
          clear hA
          obtain ⟨W4, hW4⟩ : ∃ W4, W4 = wr.alloc (.cells #[.int .i64 d.l[q].k, .int .i64 d.l[q].n, .string d.l[q].t, .slice d.l[q].sa d.l[q].s.length d.l[q].sc, .slice d.l[q].A d.l[q].l.length d.l[q].c] 43) := ⟨_, rfl⟩
          have bA : Below wr.heap.size wr W4 := by rw [hW4]; exact (Below.refl _ _).alloc (Nat.le_refl _) _
          have z4 : wr.heap.size < W4.heap.size := by rw [hW4]; simp
          have Y4 : S.Box W4 wr.heap.size d.l[q] := by rw [hW4]; exact S.Box.new _ _ _
          have hc := ih d.l[q] n B W4 (by omega) (hix.below (bA.mono (by omega))) (by omega)
          obtain ⟨U, hU⟩ : ∃ U, U = S.upto n d.l[q] := ⟨_, rfl⟩
          rw [← hU] at hc
          unfold S.val at hc
          have HC := Lib.hid hc
          have HU := Lib.hid hU
          clear hc hU hix
          go_upto_region 10 with fail
          rw [← hW4]
          clear hW4 c0 c1 c2 c3 c4
          obtain ⟨y0, y1, y2, y3, y4⟩ := Y4
          go_wp2_with fail
          clear y0 y1 y2 y3 y4
          refine HC.out.mono ?_
          rintro e w5 ⟨rfl, hb5⟩
          have hb6 := hb3.trans ((bA.trans (hb5.mono (by omega))).mono hs3)
          cases U
          · have HQ : Hid (S.upto n d = false) := by show _ = _; rw [HS.out]; exact S.uptoL_no hlt2 HU.out.symm
            go_wp2_with fail
            go_ret
            exact ⟨ret_bool HQ.out.symm, bw.trans (hb6.mono (by omega))⟩
          · have HM2 : Hid (∀ x ∈ d.l.take (q + 1), S.upto n x = true) := all_takeU (p := fun x => S.upto n x) hlt2 HM.out HU.out.symm
            go_wp2_with fail
            exact ⟨⟨q + 1, by omega, by go_num, HM2, hb6⟩, by simp [intOf]; omega⟩
        · have hq' : q = d.l.length := by omega
          have HQ : Hid (S.upto n d = true) := by
            show _ = _
            rw [HS.out]
            refine S.uptoL_yes ?_
            have h := HM.out
            rw [hq', List.take_length] at h
            exact h
          clear HM
          go_wp2_with fail
          go_ret
          exact ⟨ret_bool HQ.out.symm, bw3⟩
theorem l6Below_any : ∀ m, UpOk m := by
  intro m
  induction m with
  | zero => intro d n B w hm; have := S.size_pos d; omega
  | succ m ih => exact l6Below_step m ih
/-- The three lists of rules. -/
def Ru.lst (x : Ru) : Nat → List S | 0 => x.l0 | 1 => x.l1 | _ => x.l2

set_option maxRecDepth 100000 in
set_option maxHeartbeats 4000000 in
theorem l6Rules_any (x : Ru) (n : Int) (B : Nat) (w : World) (hin : x.In w B) (hB : B ≤ w.heap.size) :
    Calls Tryz.prog 51 #[x.val, .int .i64 n] w fun e w' => e = .returned (.bool (Ru.uptoR n x)) ∧ Below w.heap.size w w' := by
  have K : Hid (Ru.uptoR n x = (S.uptoL n x.l0 && (S.uptoL n x.l1 && S.uptoL n x.l2))) := rfl
  have hR0 := S.Row.of_itm hin.a
  have hR1 := S.Row.of_itm hin.b
  have hR2 := S.Row.of_itm hin.c
  obtain ⟨W1, hW1⟩ : ∃ W1, W1 = w.alloc (.cells #[.slice x.A0 x.l0.length x.c0, .slice x.A1 x.l1.length x.c1, .slice x.A2 x.l2.length x.c2] 29) := ⟨_, rfl⟩
  have b1 : Below w.heap.size w W1 := by rw [hW1]; exact (Below.refl _ _).alloc (Nat.le_refl _) _
  have z1 : w.heap.size < W1.heap.size := by rw [hW1]; simp
  have X1 : Ru.Box W1 w.heap.size x := by rw [hW1]; exact Ru.Box.new _ _ _
  obtain ⟨W2, hW2⟩ : ∃ W2, W2 = W1.alloc (.cells #[.slice x.A0 x.l0.length x.c0, .slice x.A1 x.l1.length x.c1, .slice x.A2 x.l2.length x.c2] 27) := ⟨_, rfl⟩
  have b2 : Below W1.heap.size W1 W2 := by rw [hW2]; exact (Below.refl _ _).alloc (Nat.le_refl _) _
  have z2 : W1.heap.size < W2.heap.size := by rw [hW2]; simp
  have R2 : D.Blk W2 W1.heap.size 27 #[.slice x.A0 x.l0.length x.c0, .slice x.A1 x.l1.length x.c1, .slice x.A2 x.l2.length x.c2] := by rw [hW2]; exact D.Blk.new _ _ _
  have b02 := b1.trans (b2.mono (by omega))
  have HL : Hid (∀ j, j < 3 → ∃ (A : Option Addr) (c : Nat), W2.cell? ⟨W1.heap.size, j, none⟩ = some (.slice A (x.lst j).length c) ∧ S.Row W2 B A c (x.lst j)) := by
    intro j hj
    have hc : j = 0 ∨ j = 1 ∨ j = 2 := by omega
    rcases hc with rfl | rfl | rfl
    · exact ⟨x.A0, x.c0, R2.cell 0, hR0.below (b02.mono hB)⟩
    · exact ⟨x.A1, x.c1, R2.cell 1, hR1.below (b02.mono hB)⟩
    · exact ⟨x.A2, x.c2, R2.cell 2, hR2.below (b02.mono hB)⟩
  have HNO : Hid (∀ j, j < 3 → S.uptoL n (x.lst j) = false → Ru.uptoR n x = false) := by
    intro j hj h
    rw [K.out]
    have hc : j = 0 ∨ j = 1 ∨ j = 2 := by omega
    rcases hc with rfl | rfl | rfl
    · rw [show S.uptoL n x.l0 = false from h]; rfl
    · rw [show S.uptoL n x.l1 = false from h]; simp
    · rw [show S.uptoL n x.l2 = false from h]; simp
  unfold Ru.val
  obtain ⟨x0, x1, x2⟩ := X1
  go_enter Tryz.func51, Tryz.ntmps51
  go_upto_region 1 with fail
  rw [← hW1]
  clear hW1
  go_wp2_with fail
  rw [← hW2]
  clear hW2 R2 x0 x1 x2
  go_loopw [17] (fun i wr => ∃ j : Nat, j ≤ 3 ∧ i = .int .i64 j ∧ Hid (∀ q, q < j → S.uptoL n (x.lst q) = true) ∧ Below W2.heap.size W2 wr) (fun i _ => 3 - (intOf i).toNat)
  case atStart => exact ⟨0, by omega, rfl, fun q h => by omega, Below.refl _ _⟩
  case round =>
    obtain ⟨j, hj, rfl, HN, hb⟩ := hrel
    have hs2 := hb.size
    have bw := b02.trans (hb.mono (by omega))
    by_cases hlt : j < 3
    · obtain ⟨A, c, c0, hrow⟩ := HL.out j hlt
      have HNj := Lib.hid (HNO.out j hlt)
      have g1 : (j : Int) < 3 := by omega
      have y0 := (hb.cell (p := ⟨W1.heap.size, j, none⟩) (show W1.heap.size < _ by omega)).trans c0
      have hrow2 := hrow.below (hb.mono (show B ≤ W2.heap.size by omega))
      have hcap := hrow2.cap
      obtain ⟨L, hL⟩ : ∃ L, L = x.lst j := ⟨_, rfl⟩
      rw [← hL] at y0 hrow2 hcap HNj
      have HLj := Lib.hid hL
      clear hL c0 hrow
      go_wp2_with fail
      clear y0
      go_loopw [23] (fun i w3 => ∃ q : Nat, q ≤ L.length ∧ i = .int .i64 q ∧ Hid (∀ y ∈ L.take q, S.upto n y = true) ∧ Below wr.heap.size wr w3) (fun i _ => L.length - (intOf i).toNat)
      case atStart => exact ⟨0, Nat.zero_le _, rfl, by simp [Hid], Below.refl _ _⟩
      case round =>
        obtain ⟨q, hq, rfl, HM, hb3⟩ := hrel
        have hs3 := hb3.size
        have bw3 := bw.trans (hb3.mono (by omega))
        by_cases hlt2 : q < L.length
        · obtain ⟨pb, po, hA, hblk, c0, c1, c2, c3, c4, hix⟩ := S.atE ((hrow2.below (hb3.mono (by omega))).2 (by rintro rfl; simp at hlt2)) (i := q) (x := L[q]) (List.getElem?_eq_getElem hlt2)
          have g2 : (q : Int) < (L.length : Int) := by omega
          subst hA
          obtain ⟨W4, hW4⟩ : ∃ W4, W4 = wr.alloc (.cells #[.int .i64 L[q].k, .int .i64 L[q].n, .string L[q].t, .slice L[q].sa L[q].s.length L[q].sc, .slice L[q].A L[q].l.length L[q].c] 43) := ⟨_, rfl⟩
          have bA : Below wr.heap.size wr W4 := by rw [hW4]; exact (Below.refl _ _).alloc (Nat.le_refl _) _
          have z4 : wr.heap.size < W4.heap.size := by rw [hW4]; simp
          have Y4 : S.Box W4 wr.heap.size L[q] := by rw [hW4]; exact S.Box.new _ _ _
          have hc := l6Below_any _ L[q] n B W4 (Nat.le_refl _) (hix.below (bA.mono (by omega))) (by omega)
          obtain ⟨U, hU⟩ : ∃ U, U = S.upto n L[q] := ⟨_, rfl⟩
          rw [← hU] at hc
          unfold S.val at hc
          have HC := Lib.hid hc
          have HU := Lib.hid hU
          clear hc hU hix
          go_upto_region 7 with fail
          rw [← hW4]
          clear hW4 c0 c1 c2 c3 c4
          obtain ⟨y0, y1, y2, y3, y4⟩ := Y4
          go_wp2_with fail
          clear y0 y1 y2 y3 y4
          refine HC.out.mono ?_
          rintro e w5 ⟨rfl, hb5⟩
          have hb6 := hb3.trans ((bA.trans (hb5.mono (by omega))).mono hs3)
          cases U
          · have HQ : Hid (Ru.uptoR n x = false) := HNj.out (S.uptoL_no hlt2 HU.out.symm)
            go_wp2_with fail
            go_ret
            exact ⟨ret_bool HQ.out.symm, bw.trans (hb6.mono (by omega))⟩
          · have HM2 : Hid (∀ y ∈ L.take (q + 1), S.upto n y = true) := all_takeU (p := fun y => S.upto n y) hlt2 HM.out HU.out.symm
            go_wp2_with fail
            exact ⟨⟨q + 1, by omega, by go_num, HM2, hb6⟩, by simp [intOf]; omega⟩
        · have hq' : q = L.length := by omega
          have HQ : Hid (∀ q, q < j + 1 → S.uptoL n (x.lst q) = true) := by
            intro i hi
            by_cases hij : i = j
            · subst hij
              rw [← HLj.out]
              refine S.uptoL_yes ?_
              have h := HM.out
              rw [hq', List.take_length] at h
              exact h
            · exact HN.out i (by omega)
          clear HM
          go_wp2_with fail
          exact ⟨⟨j + 1, by omega, by go_num, HQ, hb.trans (hb3.mono (by omega))⟩, by simp [intOf]; omega⟩
    · have hj' : j = 3 := by omega
      have HQ : Hid (Ru.uptoR n x = true) := by
        show _ = _
        rw [K.out, show S.uptoL n x.l0 = true from HN.out 0 (by omega), show S.uptoL n x.l1 = true from HN.out 1 (by omega), show S.uptoL n x.l2 = true from HN.out 2 (by omega)]
        rfl
      subst hj'
      clear HN
      go_wp2_with fail
      go_ret
      exact ⟨ret_bool HQ.out.symm, bw⟩
end Go.Proofs.YtnldlbglgalbaabGreat

namespace Go.Proofs.YtnldlbglgalbaabGreat
open Go.RowKit
theorem Ru.bad_eq {n : Int} (hn : 0 ≤ n) (r : Ru) : (Ru.okM r && Ru.uptoR n r) = !Ru.bad n r := by
  rw [Ru.ok_within hn]
  unfold Ru.bad
  simp
theorem none_takeU {α : Type} {p : α → Bool} {l : List α} (h : ∀ x ∈ l.take l.length, p x = false) : l.any p = false := any_none (by rwa [List.take_length] at h)
set_option maxRecDepth 100000 in
set_option maxHeartbeats 4000000 in
theorem specEx_any (x : Ex) (B : Nat) (w : World) (hin : x.In w B) (hB : B ≤ w.heap.size) (hbk : ∀ r ∈ x.l1, r.bulk ≤ 1048576) :
    Calls Tryz.prog 25 #[x.val] w fun e w' => e = .returned (.bool (Ex.okE x)) ∧ Below w.heap.size w w' := by
  have K : Hid (Ex.okE x = (Ex.okH x && ((decide (x.l1.length ≤ 200) && Bd.areB x.l0) && (!x.l1.any (Ru.bad x.s) && !x.l0.any (Ex.beyond x))))) := rfl
  have KH : Hid (Ex.okH x = (decide (0 ≤ x.s ∧ x.s ≤ 99999) && (decide (0 ≤ x.v ∧ x.v ≤ 99999) && decide (0 ≤ x.t ∧ x.t ≤ 200)))) := rfl
  have hca := hin.a.cap
  have hcb := hin.b.cap
  obtain ⟨W1, hW1⟩ : ∃ W1, W1 = w.alloc (.cells #[.slice x.A0 x.l0.length x.c0, .slice x.A1 x.l1.length x.c1, .int .i64 x.s, .int .i64 x.v, .int .i64 x.t] 61) := ⟨_, rfl⟩
  have b1 : Below w.heap.size w W1 := by rw [hW1]; exact (Below.refl _ _).alloc (Nat.le_refl _) _
  have z1 : w.heap.size < W1.heap.size := by rw [hW1]; simp
  have X1 : Ex.Box W1 w.heap.size x := by rw [hW1]; exact Ex.Box.new _ _ _
  have XA := Lib.hid X1
  have HA : Hid (Calls Tryz.prog 50 #[.slice x.A0 x.l0.length x.c0] W1 fun e w' => e = .returned (.bool (Bd.areB x.l0)) ∧ Below W1.heap.size W1 w') := specAreB_any x.A0 x.c0 x.l0 B W1 (hin.a.below (b1.mono hB)) (by omega)
  obtain ⟨AA, hAA⟩ : ∃ V, V = Bd.areB x.l0 := ⟨_, rfl⟩
  obtain ⟨VS, hVS⟩ : ∃ V, V = decide (0 ≤ x.s ∧ x.s ≤ 99999) := ⟨_, rfl⟩
  obtain ⟨VV, hVV⟩ : ∃ V, V = decide (0 ≤ x.v ∧ x.v ≤ 99999) := ⟨_, rfl⟩
  obtain ⟨VT, hVT⟩ : ∃ V, V = decide (0 ≤ x.t ∧ x.t ≤ 200) := ⟨_, rfl⟩
  have H1 := Lib.hid hVS.symm
  have H2 := Lib.hid hVV.symm
  have H3 := Lib.hid hVT.symm
  rw [← hAA] at HA K
  rw [← hVS, ← hVV, ← hVT] at KH
  clear hAA hVS hVV hVT
  have hbk2 := Lib.hid hbk
  clear hbk
  unfold Ex.val
  obtain ⟨x0, x1, x2, x3, x4⟩ := X1
  cases AA
  · have HQ : Hid (Ex.okE x = false) := by show _ = _; rw [K.out]; simp
    clear K KH
    go_enter Tryz.func25, Tryz.ntmps25
    go_upto_region 1 with fail
    rw [← hW1]
    clear hW1
    go_wp2_with fail
    clear x0 x1 x2 x3 x4
    refine HA.out.mono ?_
    rintro e w2 ⟨rfl, hb2⟩
    have z2 := hb2.size
    have b2 := b1.trans (hb2.mono (by omega))
    have X2 := XA.out.below hb2 (by omega)
    have X2q := X2
    obtain ⟨x0, x1, x2, x3, x4⟩ := X2q
    go_wp2_with fail
    go_ret
    exact ⟨ret_bool HQ.out.symm, b2⟩
  by_cases h5 : 200 < x.l1.length
  · have g5 : decide ((x.l1.length : Int) > 200) = true := decide_eq_true (by omega)
    have HQ : Hid (Ex.okE x = false) := by show _ = _; rw [K.out, decide_eq_false (p := x.l1.length ≤ 200) (by omega)]; simp
    clear K KH
    go_enter Tryz.func25, Tryz.ntmps25
    go_upto_region 1 with fail
    rw [← hW1]
    clear hW1
    go_wp2_with fail
    clear x0 x1 x2 x3 x4
    refine HA.out.mono ?_
    rintro e w2 ⟨rfl, hb2⟩
    have z2 := hb2.size
    have b2 := b1.trans (hb2.mono (by omega))
    have X2 := XA.out.below hb2 (by omega)
    have X2q := X2
    obtain ⟨x0, x1, x2, x3, x4⟩ := X2q
    go_wp2_with fail
    go_ret
    exact ⟨ret_bool HQ.out.symm, b2⟩
  have g5 : decide ((x.l1.length : Int) > 200) = false := decide_eq_false (by omega)
  cases VS
  · have HQ : Hid (Ex.okE x = false) := by show _ = _; rw [K.out, KH.out]; simp
    clear K KH
    go_enter Tryz.func25, Tryz.ntmps25
    go_upto_region 1 with fail
    rw [← hW1]
    clear hW1
    go_wp2_with fail
    clear x0 x1 x2 x3 x4
    refine HA.out.mono ?_
    rintro e w2 ⟨rfl, hb2⟩
    have z2 := hb2.size
    have b2 := b1.trans (hb2.mono (by omega))
    have X2 := XA.out.below hb2 (by omega)
    have X2q := X2
    obtain ⟨x0, x1, x2, x3, x4⟩ := X2q
    go_wp2_with fail
    (with_reducible refine (l1In_any _ _ _ _).mono ?_)
    rintro e w3 ⟨rfl, rfl⟩
    rw [H1.out]
    go_wp2_with fail
    go_ret
    exact ⟨ret_bool HQ.out.symm, b2⟩
  cases VV
  · have HQ : Hid (Ex.okE x = false) := by show _ = _; rw [K.out, KH.out]; simp
    clear K KH
    go_enter Tryz.func25, Tryz.ntmps25
    go_upto_region 1 with fail
    rw [← hW1]
    clear hW1
    go_wp2_with fail
    clear x0 x1 x2 x3 x4
    refine HA.out.mono ?_
    rintro e w2 ⟨rfl, hb2⟩
    have z2 := hb2.size
    have b2 := b1.trans (hb2.mono (by omega))
    have X2 := XA.out.below hb2 (by omega)
    have X2q := X2
    obtain ⟨x0, x1, x2, x3, x4⟩ := X2q
    go_wp2_with fail
    (with_reducible refine (l1In_any _ _ _ _).mono ?_)
    rintro e w3 ⟨rfl, rfl⟩
    rw [H1.out]
    go_wp2_with fail
    (with_reducible refine (l1In_any _ _ _ _).mono ?_)
    rintro e w4 ⟨rfl, rfl⟩
    rw [H2.out]
    go_wp2_with fail
    go_ret
    exact ⟨ret_bool HQ.out.symm, b2⟩
  cases VT
  · have HQ : Hid (Ex.okE x = false) := by show _ = _; rw [K.out, KH.out]; simp
    clear K KH
    go_enter Tryz.func25, Tryz.ntmps25
    go_upto_region 1 with fail
    rw [← hW1]
    clear hW1
    go_wp2_with fail
    clear x0 x1 x2 x3 x4
    refine HA.out.mono ?_
    rintro e w2 ⟨rfl, hb2⟩
    have z2 := hb2.size
    have b2 := b1.trans (hb2.mono (by omega))
    have X2 := XA.out.below hb2 (by omega)
    have X2q := X2
    obtain ⟨x0, x1, x2, x3, x4⟩ := X2q
    go_wp2_with fail
    (with_reducible refine (l1In_any _ _ _ _).mono ?_)
    rintro e w3 ⟨rfl, rfl⟩
    rw [H1.out]
    go_wp2_with fail
    (with_reducible refine (l1In_any _ _ _ _).mono ?_)
    rintro e w4 ⟨rfl, rfl⟩
    rw [H2.out]
    go_wp2_with fail
    (with_reducible refine (l1In_any _ _ _ _).mono ?_)
    rintro e w5 ⟨rfl, rfl⟩
    rw [H3.out]
    go_wp2_with fail
    go_ret
    exact ⟨ret_bool HQ.out.symm, b2⟩
  have q3 : x.l1.length ≤ 200 := by omega
  have hs0 : 0 ≤ x.s := by have := of_decide_eq_true H1.out; omega
  have HKK : Hid (Ex.okE x = (!x.l1.any (Ru.bad x.s) && !x.l0.any (Ex.beyond x))) := by show _ = _; rw [K.out, KH.out, decide_eq_true q3]; rfl
  clear K KH q3 h5
  go_enter Tryz.func25, Tryz.ntmps25
  go_upto_region 1 with fail
  rw [← hW1]
  clear hW1
  go_wp2_with fail
  clear x0 x1 x2 x3 x4
  refine HA.out.mono ?_
  rintro e w2 ⟨rfl, hb2⟩
  have z2 := hb2.size
  have b2 := b1.trans (hb2.mono (by omega))
  have X2 := XA.out.below hb2 (by omega)
  have X2q := X2
  obtain ⟨x0, x1, x2, x3, x4⟩ := X2q
  go_wp2_with fail
  (with_reducible refine (l1In_any _ _ _ _).mono ?_)
  rintro e w3 ⟨rfl, rfl⟩
  rw [H1.out]
  go_wp2_with fail
  (with_reducible refine (l1In_any _ _ _ _).mono ?_)
  rintro e w4 ⟨rfl, rfl⟩
  rw [H2.out]
  go_wp2_with fail
  (with_reducible refine (l1In_any _ _ _ _).mono ?_)
  rintro e w5 ⟨rfl, rfl⟩
  rw [H3.out]
  go_wp2_with fail
  clear x0 x1 x2 x3 x4
  go_loopw [39] (fun i wr => ∃ j : Nat, j ≤ x.l1.length ∧ i = .int .i64 j ∧ Hid (∀ r ∈ x.l1.take j, Ru.bad x.s r = false) ∧ Below w2.heap.size w2 wr) (fun i _ => x.l1.length - (intOf i).toNat)
  case atStart => exact ⟨0, Nat.zero_le _, rfl, by simp [Hid], Below.refl _ _⟩
  case round =>
    obtain ⟨j, hj, rfl, HN, hb⟩ := hrel
    have hs2 := hb.size
    have bw := b2.trans (hb.mono (by omega))
    by_cases hlt : j < x.l1.length
    · obtain ⟨rb, ro, hA, hrb, c0, c1, c2, hix⟩ := Ru.at_ (hin.b.below (bw.mono hB)) (i := j) (x := x.l1[j]) (List.getElem?_eq_getElem hlt)
      have g1 : (j : Int) < (x.l1.length : Int) := by omega
      have hbr := hbk2.out _ (List.getElem_mem hlt)
      rw [hA]
      clear hA
      obtain ⟨W4, hW4⟩ : ∃ W4, W4 = wr.alloc (.cells #[.slice x.l1[j].A0 x.l1[j].l0.length x.l1[j].c0, .slice x.l1[j].A1 x.l1[j].l1.length x.l1[j].c1, .slice x.l1[j].A2 x.l1[j].l2.length x.l1[j].c2] 29) := ⟨_, rfl⟩
      have bA : Below wr.heap.size wr W4 := by rw [hW4]; exact (Below.refl _ _).alloc (Nat.le_refl _) _
      have z4 : wr.heap.size < W4.heap.size := by rw [hW4]; simp
      have Y4 : Ru.Box W4 wr.heap.size x.l1[j] := by rw [hW4]; exact Ru.Box.new _ _ _
      have X4 := (X2.below hb (by omega)).below bA (by omega)
      have hi4 := hix.below (bA.mono (by omega))
      have HE : Hid ((Ru.okM x.l1[j] && Ru.uptoR x.s x.l1[j]) = !Ru.bad x.s x.l1[j]) := Ru.bad_eq hs0 _
      have hk := specRules_b x.l1[j] B W4 hi4 (by omega) hbr
      have hu : ∀ u, Below B W4 u → B ≤ u.heap.size → Calls Tryz.prog 51 #[Ru.val x.l1[j], .int .i64 x.s] u fun e w' => e = .returned (.bool (Ru.uptoR x.s x.l1[j])) ∧ Below u.heap.size u w' := fun u h1 h2 => l6Rules_any x.l1[j] x.s B u (hi4.below h1) h2
      obtain ⟨OK, hOK⟩ : ∃ z, z = Ru.okM x.l1[j] := ⟨_, rfl⟩
      obtain ⟨UP, hUP⟩ : ∃ z, z = Ru.uptoR x.s x.l1[j] := ⟨_, rfl⟩
      rw [← hOK] at hk HE
      rw [← hUP] at hu HE
      unfold Ru.val at hk hu
      have HK := Lib.hid hk
      have HU := Lib.hid hu
      clear hk hu hOK hUP hix
      have HY4 := Lib.hid Y4
      go_upto_region 6 with fail
      rw [← hW4]
      clear hW4 c0 c1 c2
      obtain ⟨y0, y1, y2⟩ := Y4
      go_wp2_with fail
      clear y0 y1 y2
      refine HK.out.mono ?_
      rintro e w5 ⟨rfl, hb5⟩
      have z5 := hb5.size
      have hb6 := hb.trans ((bA.trans (hb5.mono (by omega))).mono hs2)
      cases OK
      · have hbad : Ru.bad x.s x.l1[j] = true := by have := HE.out; simpa using this.symm
        have HQ : Hid (Ex.okE x = false) := by show _ = _; rw [HKK.out, any_yes (p := Ru.bad x.s) hlt hbad]; rfl
        clear hbad
        go_wp2_with fail
        go_ret
        exact ⟨ret_bool HQ.out.symm, b2.trans (hb6.mono (by omega))⟩
      · have X5 := X4.below hb5 (by omega)
        obtain ⟨y0, y1, y2⟩ := HY4.out.below hb5 (by omega)
        have k2 := X5.x2
        go_wp2_with fail
        clear y0 y1 y2 k2
        refine (HU.out w5 (hb5.mono (by omega)) (by omega)).mono ?_
        rintro e w6 ⟨rfl, hb7⟩
        have hb8 := hb6.trans (hb7.mono (by omega))
        cases UP
        · have hbad : Ru.bad x.s x.l1[j] = true := by have := HE.out; simpa using this.symm
          have HQ : Hid (Ex.okE x = false) := by show _ = _; rw [HKK.out, any_yes (p := Ru.bad x.s) hlt hbad]; rfl
          clear hbad
          go_wp2_with fail
          go_ret
          exact ⟨ret_bool HQ.out.symm, b2.trans (hb8.mono (by omega))⟩
        · have hbad : Ru.bad x.s x.l1[j] = false := by have := HE.out; simpa using this.symm
          have HN2 : Hid (∀ r ∈ x.l1.take (j + 1), Ru.bad x.s r = false) := none_succ hlt HN.out hbad
          clear hbad
          go_wp2_with fail
          exact ⟨⟨j + 1, by omega, by go_num, HN2, hb8⟩, by simp [intOf]; omega⟩
    · have hj' : j = x.l1.length := by omega
      have HK2 : Hid (Ex.okE x = !x.l0.any (Ex.beyond x)) := by
        show _ = _
        rw [HKK.out, none_takeU (by have h := HN.out; rw [hj'] at h; exact h)]
        rfl
      have X3 := X2.below hb (by omega)
      have HX3 := Lib.hid X3
      obtain ⟨x0, x1, x2, x3, x4⟩ := X3
      clear HN hj hj' HKK
      go_wp2_with fail
      clear x0 x1 x2 x3 x4
      go_loopw [57] (fun i w3 => ∃ q : Nat, q ≤ x.l0.length ∧ i = .int .i64 q ∧ Hid (∀ b ∈ x.l0.take q, Ex.beyond x b = false) ∧ Below wr.heap.size wr w3) (fun i _ => x.l0.length - (intOf i).toNat)
      case atStart => exact ⟨0, Nat.zero_le _, rfl, by simp [Hid], Below.refl _ _⟩
      case round =>
        obtain ⟨q, hq, rfl, HM, hb3⟩ := hrel
        have hs3 := hb3.size
        have bw3 := bw.trans (hb3.mono (by omega))
        by_cases hlt2 : q < x.l0.length
        · obtain ⟨pb, po, hA, hblk, c0, c1, c2, c3, hix⟩ := Bd.at_ (hin.a.below (bw3.mono hB)) (i := q) (x := x.l0[q]) (List.getElem?_eq_getElem hlt2)
          have g1 : (q : Int) < (x.l0.length : Int) := by omega
          have hsc : IIn wr B x.l0[q].sa x.l0[q].sc x.l0[q].s := (show Bd.In wr B x.l0[q] from hix).2
          have hsl := hsc.cap
          rw [hA]
          clear hA
          obtain ⟨b, hbq⟩ : ∃ b, b = x.l0[q] := ⟨_, rfl⟩
          have HBQ := Lib.hid hbq
          rw [← hbq] at c0 c1 c2 c3 hsc hsl
          clear hbq hix
          obtain ⟨W4, hW4⟩ : ∃ W4, W4 = wr.alloc (.cells #[.string b.t, .slice b.sa b.s.length b.sc, .int .i64 b.k, .int .i64 b.n] 90) := ⟨_, rfl⟩
          have bA : Below wr.heap.size wr W4 := by rw [hW4]; exact (Below.refl _ _).alloc (Nat.le_refl _) _
          have z4 : wr.heap.size < W4.heap.size := by rw [hW4]; simp
          have Y4 : Bd.Box W4 wr.heap.size b := by rw [hW4]; exact Bd.Box.new _ _ _
          have X4 := (HX3.out.below hb3 (by omega)).below bA (by omega)
          have hb4 := hb3.trans (bA.mono hs3)
          have bw4 := bw.trans (hb4.mono (by omega))
          have hx4 : w.heap.size < W4.heap.size := by omega
          have KB : Hid (Ex.beyond x b = (decide (S.lastS b.s > x.s) || !x.mean b)) := rfl
          have KM : Hid (x.mean b = if b.k = 3 then decide (b.n ≤ x.v) else if b.k = 4 then decide (b.n < (x.l1.length : Int)) else true) := rfl
          go_upto_region 12 with fail
          rw [← hW4]
          clear hW4 c0 c1 c2 c3
          obtain ⟨k0, k1, k2, k3, k4⟩ := X4
          obtain ⟨d0, d1, d2, d3⟩ := Y4
          go_wp2_with fail
          have kk0 : ∀ z : Near W4, z.at_.cell? ⟨w.heap.size, 0, none⟩ = some (.slice x.A0 x.l0.length x.c0) := fun z => z.cell 0 k0 hx4
          have kk1 : ∀ z : Near W4, z.at_.cell? ⟨w.heap.size, 1, none⟩ = some (.slice x.A1 x.l1.length x.c1) := fun z => z.cell 1 k1 hx4
          have kk2 : ∀ z : Near W4, z.at_.cell? ⟨w.heap.size, 2, none⟩ = some (.int .i64 x.s) := fun z => z.cell 2 k2 hx4
          have kk3 : ∀ z : Near W4, z.at_.cell? ⟨w.heap.size, 3, none⟩ = some (.int .i64 x.v) := fun z => z.cell 3 k3 hx4
          have kk4 : ∀ z : Near W4, z.at_.cell? ⟨w.heap.size, 4, none⟩ = some (.int .i64 x.t) := fun z => z.cell 4 k4 hx4
          have dd0 : ∀ z : Near W4, z.at_.cell? ⟨wr.heap.size, 0, none⟩ = some (.string b.t) := fun z => z.cell 0 d0 z4
          have dd1 : ∀ z : Near W4, z.at_.cell? ⟨wr.heap.size, 1, none⟩ = some (.slice b.sa b.s.length b.sc) := fun z => z.cell 1 d1 z4
          have dd2 : ∀ z : Near W4, z.at_.cell? ⟨wr.heap.size, 2, none⟩ = some (.int .i64 b.k) := fun z => z.cell 2 d2 z4
          have dd3 : ∀ z : Near W4, z.at_.cell? ⟨wr.heap.size, 3, none⟩ = some (.int .i64 b.n) := fun z => z.cell 3 d3 z4
          clear k0 k1 k2 k3 k4 d0 d1 d2 d3
          by_cases hl0 : b.s.length = 0
          · have el : decide ((b.s.length : Int) > 0) = false := decide_eq_false (by omega)
            have elN : ¬ 0 < b.s.length := by omega
            have elI : ¬ (0 : Int) < (b.s.length : Int) := by omega
            have HLS : Hid (decide (S.lastS b.s > x.s) = false) := by show _ = _; rw [List.length_eq_zero_iff.1 hl0]; exact decide_eq_false (by show ¬ (0 : Int) > x.s; omega)
            clear hl0
            by_cases h3 : b.k = 3
            · have e3 : (b.k == 3) = true := by simp [h3]
              have e4 : (b.k == 4) = false := by simp [h3]
              have KM2 : Hid (x.mean b = decide (b.n ≤ x.v)) := by show _ = _; rw [KM.out, if_pos h3]
              clear h3 KM
              by_cases hv : b.n > x.v
              · have ev : decide (b.n > x.v) = true := decide_eq_true hv
                have hbad : Ex.beyond x b = true := by rw [KB.out, KM2.out, decide_eq_false (p := b.n ≤ x.v) (by omega)]; simp
                have HQ : Hid (Ex.okE x = false) := by show _ = _; rw [HK2.out, any_yes (p := Ex.beyond x) hlt2 (by rw [← HBQ.out]; exact hbad)]; rfl
                clear hbad
                refine wp_region_near (by kernel_rfl) (by kernel_rfl) ?_
                repeat (go_big_quiet_step (fail))
                refine wpQuiet_nil ?_
                intro _ hw1
                obtain ⟨nx, hw2⟩ := hw1
                subst hw2
                have hbx := hb4.trans (nx.below.mono (by omega))
                go_wp2_with fail
                go_ret
                exact ⟨ret_bool HQ.out.symm, bw.trans (hbx.mono (by omega))⟩
              · have ev : decide (b.n > x.v) = false := decide_eq_false hv
                have hbad : Ex.beyond x b = false := by rw [KB.out, KM2.out, HLS.out, decide_eq_true (p := b.n ≤ x.v) (by omega)]; rfl
                have HM2 : Hid (∀ b ∈ x.l0.take (q + 1), Ex.beyond x b = false) := none_succ hlt2 HM.out (by rw [← HBQ.out]; exact hbad)
                clear hbad
                refine wp_region_near (by kernel_rfl) (by kernel_rfl) ?_
                repeat (go_big_quiet_step (fail))
                refine wpQuiet_nil ?_
                intro _ hw1
                obtain ⟨nx, hw2⟩ := hw1
                subst hw2
                have hbx := hb4.trans (nx.below.mono (by omega))
                go_wp2_with fail
                exact ⟨⟨q + 1, by omega, by go_num, HM2, hbx⟩, by simp [intOf]; omega⟩
            · have e3 : (b.k == 3) = false := by simpa using h3
              by_cases h4 : b.k = 4
              · have e4 : (b.k == 4) = true := by simp [h4]
                have KM2 : Hid (x.mean b = decide (b.n < (x.l1.length : Int))) := by show _ = _; rw [KM.out, if_neg h3, if_pos h4]
                clear h3 h4 KM
                by_cases hv : b.n ≥ (x.l1.length : Int)
                · have ev : decide (b.n ≥ (x.l1.length : Int)) = true := decide_eq_true hv
                  have hbad : Ex.beyond x b = true := by rw [KB.out, KM2.out, decide_eq_false (p := b.n < (x.l1.length : Int)) (by omega)]; simp
                  have HQ : Hid (Ex.okE x = false) := by show _ = _; rw [HK2.out, any_yes (p := Ex.beyond x) hlt2 (by rw [← HBQ.out]; exact hbad)]; rfl
                  clear hbad
                  refine wp_region_near (by kernel_rfl) (by kernel_rfl) ?_
                  repeat (go_big_quiet_step (fail))
                  refine wpQuiet_nil ?_
                  intro _ hw1
                  obtain ⟨nx, hw2⟩ := hw1
                  subst hw2
                  have hbx := hb4.trans (nx.below.mono (by omega))
                  go_wp2_with fail
                  go_ret
                  exact ⟨ret_bool HQ.out.symm, bw.trans (hbx.mono (by omega))⟩
                · have ev : decide (b.n ≥ (x.l1.length : Int)) = false := decide_eq_false hv
                  have hbad : Ex.beyond x b = false := by rw [KB.out, KM2.out, HLS.out, decide_eq_true (p := b.n < (x.l1.length : Int)) (by omega)]; rfl
                  have HM2 : Hid (∀ b ∈ x.l0.take (q + 1), Ex.beyond x b = false) := none_succ hlt2 HM.out (by rw [← HBQ.out]; exact hbad)
                  clear hbad
                  refine wp_region_near (by kernel_rfl) (by kernel_rfl) ?_
                  repeat (go_big_quiet_step (fail))
                  refine wpQuiet_nil ?_
                  intro _ hw1
                  obtain ⟨nx, hw2⟩ := hw1
                  subst hw2
                  have hbx := hb4.trans (nx.below.mono (by omega))
                  go_wp2_with fail
                  exact ⟨⟨q + 1, by omega, by go_num, HM2, hbx⟩, by simp [intOf]; omega⟩
              · have e4 : (b.k == 4) = false := by simpa using h4
                have KM2 : Hid (x.mean b = true) := by show _ = _; rw [KM.out, if_neg h3, if_neg h4]
                clear h3 h4 KM
                have hbad : Ex.beyond x b = false := by rw [KB.out, KM2.out, HLS.out]; rfl
                have HM2 : Hid (∀ b ∈ x.l0.take (q + 1), Ex.beyond x b = false) := none_succ hlt2 HM.out (by rw [← HBQ.out]; exact hbad)
                clear hbad
                refine wp_region_near (by kernel_rfl) (by kernel_rfl) ?_
                repeat (go_big_quiet_step (fail))
                refine wpQuiet_nil ?_
                intro _ hw1
                obtain ⟨nx, hw2⟩ := hw1
                subst hw2
                have hbx := hb4.trans (nx.below.mono (by omega))
                go_wp2_with fail
                exact ⟨⟨q + 1, by omega, by go_num, HM2, hbx⟩, by simp [intOf]; omega⟩
          · have el : decide ((b.s.length : Int) > 0) = true := decide_eq_true (by omega)
            have elN : 0 < b.s.length := by omega
            have elI : (0 : Int) < (b.s.length : Int) := by omega
            have hl1 : b.s.length - 1 < b.s.length := by omega
            obtain ⟨sb, so, hsA, hsb, s0⟩ := hsc.at_ hl1
            have HLE : Hid (S.lastS b.s = b.s[b.s.length - 1]) := by show _ = _; unfold S.lastS; rw [List.getD_eq_getElem?_getD, List.getElem?_eq_getElem hl1]; rfl
            have e2 : (((b.s.length - 1 : Nat) : Int)) = (b.s.length : Int) - 1 := by omega
            have e5 : ((b.s.length : Int) - 1).toNat = b.s.length - 1 := by omega
            have g5a : (0 : Int) ≤ (b.s.length : Int) - 1 := by omega
            have g5b : (b.s.length : Int) - 1 < (b.s.length : Int) := by omega
            rw [hsA] at dd1
            have s4 := (bA.cell (p := ⟨sb, so + (b.s.length - 1), none⟩) (show sb < _ by omega)).trans s0
            have ss : ∀ z : Near W4, z.at_.cell? ⟨sb, so + (b.s.length - 1), none⟩ = some (.int .i64 b.s[b.s.length - 1]) := fun z => z.cell (so + (b.s.length - 1)) s4 (by omega)
            clear s0 s4 hsA hl0
            obtain ⟨LL, hLL⟩ : ∃ LL, LL = b.s[b.s.length - 1] := ⟨_, rfl⟩
            rw [← hLL] at ss HLE
            clear hLL
            by_cases hq9 : LL > x.s
            · have el2 : decide (LL > x.s) = true := decide_eq_true hq9
              have hbad : Ex.beyond x b = true := by rw [KB.out, HLE.out, decide_eq_true hq9]; rfl
              have HQ : Hid (Ex.okE x = false) := by show _ = _; rw [HK2.out, any_yes (p := Ex.beyond x) hlt2 (by rw [← HBQ.out]; exact hbad)]; rfl
              clear hbad
              refine wp_region_near (by kernel_rfl) (by kernel_rfl) ?_
              repeat (go_big_quiet_step (fail))
              refine wpQuiet_nil ?_
              intro _ hw1
              obtain ⟨nx, hw2⟩ := hw1
              subst hw2
              have hbx := hb4.trans (nx.below.mono (by omega))
              go_wp2_with fail
              go_ret
              exact ⟨ret_bool HQ.out.symm, bw.trans (hbx.mono (by omega))⟩
            · have el2 : decide (LL > x.s) = false := decide_eq_false hq9
              have HLS : Hid (decide (S.lastS b.s > x.s) = false) := by show _ = _; rw [HLE.out]; exact decide_eq_false hq9
              by_cases h3 : b.k = 3
              · have e3 : (b.k == 3) = true := by simp [h3]
                have e4 : (b.k == 4) = false := by simp [h3]
                have KM2 : Hid (x.mean b = decide (b.n ≤ x.v)) := by show _ = _; rw [KM.out, if_pos h3]
                clear h3 KM
                by_cases hv : b.n > x.v
                · have ev : decide (b.n > x.v) = true := decide_eq_true hv
                  have hbad : Ex.beyond x b = true := by rw [KB.out, KM2.out, decide_eq_false (p := b.n ≤ x.v) (by omega)]; simp
                  have HQ : Hid (Ex.okE x = false) := by show _ = _; rw [HK2.out, any_yes (p := Ex.beyond x) hlt2 (by rw [← HBQ.out]; exact hbad)]; rfl
                  clear hbad
                  refine wp_region_near (by kernel_rfl) (by kernel_rfl) ?_
                  repeat (go_big_quiet_step (fail))
                  refine wpQuiet_nil ?_
                  intro _ hw1
                  obtain ⟨nx, hw2⟩ := hw1
                  subst hw2
                  have hbx := hb4.trans (nx.below.mono (by omega))
                  go_wp2_with fail
                  go_ret
                  exact ⟨ret_bool HQ.out.symm, bw.trans (hbx.mono (by omega))⟩
                · have ev : decide (b.n > x.v) = false := decide_eq_false hv
                  have hbad : Ex.beyond x b = false := by rw [KB.out, KM2.out, HLS.out, decide_eq_true (p := b.n ≤ x.v) (by omega)]; rfl
                  have HM2 : Hid (∀ b ∈ x.l0.take (q + 1), Ex.beyond x b = false) := none_succ hlt2 HM.out (by rw [← HBQ.out]; exact hbad)
                  clear hbad
                  refine wp_region_near (by kernel_rfl) (by kernel_rfl) ?_
                  repeat (go_big_quiet_step (fail))
                  refine wpQuiet_nil ?_
                  intro _ hw1
                  obtain ⟨nx, hw2⟩ := hw1
                  subst hw2
                  have hbx := hb4.trans (nx.below.mono (by omega))
                  go_wp2_with fail
                  exact ⟨⟨q + 1, by omega, by go_num, HM2, hbx⟩, by simp [intOf]; omega⟩
              · have e3 : (b.k == 3) = false := by simpa using h3
                by_cases h4 : b.k = 4
                · have e4 : (b.k == 4) = true := by simp [h4]
                  have KM2 : Hid (x.mean b = decide (b.n < (x.l1.length : Int))) := by show _ = _; rw [KM.out, if_neg h3, if_pos h4]
                  clear h3 h4 KM
                  by_cases hv : b.n ≥ (x.l1.length : Int)
                  · have ev : decide (b.n ≥ (x.l1.length : Int)) = true := decide_eq_true hv
                    have hbad : Ex.beyond x b = true := by rw [KB.out, KM2.out, decide_eq_false (p := b.n < (x.l1.length : Int)) (by omega)]; simp
                    have HQ : Hid (Ex.okE x = false) := by show _ = _; rw [HK2.out, any_yes (p := Ex.beyond x) hlt2 (by rw [← HBQ.out]; exact hbad)]; rfl
                    clear hbad
                    refine wp_region_near (by kernel_rfl) (by kernel_rfl) ?_
                    repeat (go_big_quiet_step (fail))
                    refine wpQuiet_nil ?_
                    intro _ hw1
                    obtain ⟨nx, hw2⟩ := hw1
                    subst hw2
                    have hbx := hb4.trans (nx.below.mono (by omega))
                    go_wp2_with fail
                    go_ret
                    exact ⟨ret_bool HQ.out.symm, bw.trans (hbx.mono (by omega))⟩
                  · have ev : decide (b.n ≥ (x.l1.length : Int)) = false := decide_eq_false hv
                    have hbad : Ex.beyond x b = false := by rw [KB.out, KM2.out, HLS.out, decide_eq_true (p := b.n < (x.l1.length : Int)) (by omega)]; rfl
                    have HM2 : Hid (∀ b ∈ x.l0.take (q + 1), Ex.beyond x b = false) := none_succ hlt2 HM.out (by rw [← HBQ.out]; exact hbad)
                    clear hbad
                    refine wp_region_near (by kernel_rfl) (by kernel_rfl) ?_
                    repeat (go_big_quiet_step (fail))
                    refine wpQuiet_nil ?_
                    intro _ hw1
                    obtain ⟨nx, hw2⟩ := hw1
                    subst hw2
                    have hbx := hb4.trans (nx.below.mono (by omega))
                    go_wp2_with fail
                    exact ⟨⟨q + 1, by omega, by go_num, HM2, hbx⟩, by simp [intOf]; omega⟩
                · have e4 : (b.k == 4) = false := by simpa using h4
                  have KM2 : Hid (x.mean b = true) := by show _ = _; rw [KM.out, if_neg h3, if_neg h4]
                  clear h3 h4 KM
                  have hbad : Ex.beyond x b = false := by rw [KB.out, KM2.out, HLS.out]; rfl
                  have HM2 : Hid (∀ b ∈ x.l0.take (q + 1), Ex.beyond x b = false) := none_succ hlt2 HM.out (by rw [← HBQ.out]; exact hbad)
                  clear hbad
                  refine wp_region_near (by kernel_rfl) (by kernel_rfl) ?_
                  repeat (go_big_quiet_step (fail))
                  refine wpQuiet_nil ?_
                  intro _ hw1
                  obtain ⟨nx, hw2⟩ := hw1
                  subst hw2
                  have hbx := hb4.trans (nx.below.mono (by omega))
                  go_wp2_with fail
                  exact ⟨⟨q + 1, by omega, by go_num, HM2, hbx⟩, by simp [intOf]; omega⟩
        · have hq' : q = x.l0.length := by omega
          have HQ : Hid (Ex.okE x = true) := by
            show _ = _
            rw [HK2.out, none_takeU (by have h := HM.out; rw [hq'] at h; exact h)]
            rfl
          clear HM
          go_wp2_with fail
          go_ret
          exact ⟨ret_bool HQ.out.symm, bw3⟩
end Go.Proofs.YtnldlbglgalbaabGreat

namespace Go.Proofs.YtnldlbglgalbaabGreat
open Go.RowKit
namespace S
theorem within_erd (n : Int) : ∀ d : S, within n (er d) = within n d := by
  intro d
  induction d using ind with
  | h d ih =>
    have key : ∀ l : List S, (∀ x ∈ l, x ∈ d.l) → withinL n (erL l) = withinL n l := by
      intro l
      induction l with
      | nil => intro _; rfl
      | cons x r ih2 => intro hm; rw [erL, withinL, withinL, ih x (hm x (by simp)), ih2 fun y hy => hm y (by simp [hy])]
    have e2 : (er d).l = erL d.l := by cases d; rfl
    rw [within_eq, within_eq, s_of_er (er_er d), e2, key d.l fun _ h => h]
theorem withinL_erL (n : Int) (l : List S) : withinL n (erL l) = withinL n l := by
  induction l with
  | nil => rfl
  | cons x r ih => rw [erL, withinL, withinL, within_erd, ih]
end S
theorem Ru.bad_of_er {n : Int} {x y : Ru} (h : x.er = y.er) : Ru.bad n x = Ru.bad n y := by
  have a := Prod.mk.inj h
  have b := Prod.mk.inj a.2
  unfold Ru.bad
  rw [← Ru.ok_eq, ← Ru.ok_eq, Ru.okM_of_er h]
  have key : ∀ z : Ru, Ru.withinR n z = (S.withinL n (S.erL z.l0) && (S.withinL n (S.erL z.l1) && S.withinL n (S.erL z.l2))) := by
    intro z
    unfold Ru.withinR
    rw [S.withinL_erL, S.withinL_erL, S.withinL_erL]
  rw [key x, key y, a.1, b.1, b.2]
theorem any_of_map {α β : Type} {p : α → Bool} {g : α → β} (hp : ∀ a b, g a = g b → p a = p b) : ∀ l m : List α, l.map g = m.map g → l.any p = m.any p
  | [], [], _ => rfl
  | [], _ :: _, h => by simp at h
  | _ :: _, [], h => by simp at h
  | a :: r, b :: s, h => by
    simp only [List.map_cons, List.cons.injEq] at h
    rw [List.any_cons, List.any_cons, hp a b h.1, any_of_map hp r s h.2]
theorem Ex.okE_of_er {x y : Ex} (h : x.er = y.er) : Ex.okE x = Ex.okE y := by
  obtain ⟨e1, e2, e3, e4, e5⟩ := Ex.er_parts h
  have hl : x.l1.length = y.l1.length := by have := congrArg List.length e2; rwa [Ru.erR_length, Ru.erR_length] at this
  have hm : ∀ a b : Bd, Bd.er a = Bd.er b → Ex.beyond x a = Ex.beyond y b := by
    intro a b hab
    have f := Bd.fields_of_er hab
    unfold Ex.beyond Ex.mean
    rw [e3, e4, hl, f.2.1, f.2.2.1, f.2.2.2]
  have hm2 : ∀ l m : List Bd, l.map Bd.er = m.map Bd.er → l.any (Ex.beyond x) = m.any (Ex.beyond y) := by
    intro l m hlm
    rw [any_of_map (p := Ex.beyond y) (g := Bd.er) (fun a b hab => by rw [← hm a b hab, hm a a rfl]) m l hlm.symm]
    congr 1
    funext b
    exact hm b b rfl
  unfold Ex.okE Ex.okH
  rw [hm2 x.l0 y.l0 e1, any_of_map (fun a b hab => Ru.bad_of_er hab) x.l1 y.l1 e2, e3, e4, e5, hl, Bd.areB_er e1]
theorem specIx_c (x : Ex) {x0 : Ex} (B : Nat) (w : World) (hxe : x.er = x0.er) {X : Bool} (hX : X = Ex.okE x0) (hbk0 : x0.bulk ≤ 1048576) (hx : x.In w B) (hB : B ≤ w.heap.size) :
    Calls Tryz.prog 25 #[x.val] w fun e w' => e = .returned (.bool X) ∧ Below w.heap.size w w' := by
  have hbk : ∀ r ∈ x.l1, r.bulk ≤ 1048576 := by
    have hr : ∀ r ∈ x0.l1, r.bulk ≤ 1048576 := fun r hr => by have := Ru.bulkR_mem hr; unfold Ex.bulk at hbk0; omega
    intro r hm
    obtain ⟨j, hj, rfl⟩ := List.mem_iff_getElem.1 hm
    have e2 := (Ex.er_parts hxe).2.1
    have hl : x.l1.length = x0.l1.length := by have := congrArg List.length e2; rwa [Ru.erR_length, Ru.erR_length] at this
    have he := Ru.erR_get e2 hj (by omega)
    have h0 := hr _ (List.getElem_mem (show j < x0.l1.length by omega))
    have a := Prod.mk.inj he
    have b := Prod.mk.inj a.2
    have hb : x.l1[j].bulk = x0.l1[j].bulk := by
      unfold Ru.bulk
      rw [← (S.bulkL_er x.l1[j].l0).1, ← (S.bulkL_er x.l1[j].l1).1, ← (S.bulkL_er x.l1[j].l2).1, a.1, b.1, b.2, (S.bulkL_er _).1, (S.bulkL_er _).1, (S.bulkL_er _).1]
    omega
  rw [hX, ← Ex.okE_of_er hxe]
  exact specEx_any x B w hx hB hbk
theorem implIx_c (x : Ex) {x0 : Ex} (B : Nat) (w : World) (hxe : x.er = x0.er) {X : Bool} (hX : X = Ex.okE x0) (hbk0 : x0.bulk ≤ 1048576) (hx : x.In w B) (hB : B ≤ w.heap.size) :
    Calls Tryz.prog 27 #[x.val] w fun e w' => e = .returned (.bool X) ∧ Below w.heap.size w w' := by
  have hbk : ∀ r ∈ x.l1, r.bulk ≤ 1048576 := by
    have hr : ∀ r ∈ x0.l1, r.bulk ≤ 1048576 := fun r hr => by have := Ru.bulkR_mem hr; unfold Ex.bulk at hbk0; omega
    intro r hm
    obtain ⟨j, hj, rfl⟩ := List.mem_iff_getElem.1 hm
    have e2 := (Ex.er_parts hxe).2.1
    have hl : x.l1.length = x0.l1.length := by have := congrArg List.length e2; rwa [Ru.erR_length, Ru.erR_length] at this
    have he := Ru.erR_get e2 hj (by omega)
    have h0 := hr _ (List.getElem_mem (show j < x0.l1.length by omega))
    have a := Prod.mk.inj he
    have b := Prod.mk.inj a.2
    have hb : x.l1[j].bulk = x0.l1[j].bulk := by
      unfold Ru.bulk
      rw [← (S.bulkL_er x.l1[j].l0).1, ← (S.bulkL_er x.l1[j].l1).1, ← (S.bulkL_er x.l1[j].l2).1, a.1, b.1, b.2, (S.bulkL_er _).1, (S.bulkL_er _).1, (S.bulkL_er _).1]
    omega
  rw [hX, ← Ex.okE_of_er hxe]
  exact implEx_any x B w hx hB hbk
end Go.Proofs.YtnldlbglgalbaabGreat
