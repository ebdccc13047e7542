/-
  The law on StripUses, walked.
-/
import Derived.Test.YtiopophoioiafaaSResB
import Derived.Test.YtiopophoioiafaaSResU
import Derived.Test.YtiopophoioiafaaSMpU
import Derived.Deep.RegionHeld3
namespace Go.Proofs.Ytiopophoioiafaa
open Go.RowKit

set_option maxRecDepth 100000 in
set_option maxHeartbeats 2000000 in
theorem law_stripuses (a : S) (w : World) (ha : a.In w w.heap.size) : Calls Try.prog 8 #[a.val] w fun e w' => e = .returned (.bool true) ∧ Below w.heap.size w w' := by
  unfold S.val
  by_cases hsz : (a.bulk : Int) ≤ 1048576
  · have hs : a.size ≤ 1048577 := by have := S.bulk_size a; omega
    have hs : a.size ≤ 2000000 := by omega
    have hsz2 : a.bulk ≤ 1048576 := by omega
    have hbk : a.bulk ≤ 2000000 := by omega
    have b0 : Below w.heap.size w w := Below.refl _ _
    have i0 := ha
    go_enter Try.func8, Try.ntmps8
    go_wp2_with fail
    obtain ⟨w1, hw1⟩ : ∃ W, W = w.alloc (.cells #[.int .i64 a.k, .int .i64 a.n, .string a.t, .slice a.sa a.s.length a.sc, .slice a.A a.l.length a.c] 48) := ⟨_, rfl⟩
    rw [← hw1]
    have hb1 : Below w.heap.size w w1 := by rw [hw1]; exact (Below.refl _ _).alloc (Nat.le_refl _) _
    have z1 : w.heap.size + 1 ≤ w1.heap.size := by rw [hw1]; simp
    have y1 : w1.heap.size ≤ w.heap.size + 1 := by rw [hw1]; simp
    have ab : S.Box w1 w.heap.size a := by rw [hw1]; exact S.Box.new _ _ _
    clear hw1
    have b1 := b0.trans (hb1.mono (by omega))
    have i1 := ha.below b1
    clear hb1 i0
    refine (ssz_any 2000000 a w.heap.size _ 1048576 hs (by omega) (by omega) i1 (by omega)).mono ?_
    rintro e w2 ⟨rfl, hb2⟩
    have z2 := hb2.size
    have ab := ab.below hb2 (by omega)
    have b2 := b1.trans (hb2.mono (by omega))
    have i2 := ha.below b2
    clear hb2 i1
    rw [szR_yes (by omega)]
    have n1 : ¬ (1048576 - (a.bulk : Int) < 0) := by omega
    have abq := ab
    obtain ⟨ab0, ab1, ab2, ab3, ab4⟩ := abq
    have ablt : w.heap.size < w2.heap.size := by omega
    go_wp2_with fail
    refine (sto_any 2000000 a w.heap.size _ hbk hs (by omega) i2 (by omega)).mono ?_
    rintro e w3 ⟨d1, rfl, hed1, o1, hb3⟩
    have z3 := hb3.size
    clear ab0 ab1 ab2 ab3 ab4 ablt
    have ab := ab.below hb3 (by omega)
    have b3 := b2.trans (hb3.mono (by omega))
    have i3 := ha.below b3
    clear hb3 i2
    have Qd1 := Lib.hid hed1
    obtain ⟨sd1, kd1, wd1⟩ := S.bounds_of hed1 (by rw [S.size_er]; omega) (by rw [S.bulk_er]; omega)
    clear hed1
    have abq := ab
    obtain ⟨ab0, ab1, ab2, ab3, ab4⟩ := abq
    have ablt : w.heap.size < w3.heap.size := by omega
    go_wp2_with fail
    refine (specStrip_any d1 w3.heap.size _ sd1 (by omega) o1.inn (Nat.le_refl _)).mono ?_
    rintro e w4 ⟨vv, rfl, hev, v, hb4⟩
    have z4 := hb4.size
    clear ab0 ab1 ab2 ab3 ab4 ablt
    have ab := ab.below hb4 (by omega)
    have b4 := b3.trans (hb4.mono (by omega))
    have i4 := ha.below b4
    clear hb4 i3
    rw [S.resS_of_er (dropL) Qd1.out] at hev
    have Qv := Lib.hid hev
    obtain ⟨vs, vb, vw⟩ := S.res_bounds (dropL_len) hev hsz2
    clear hev o1
    simp only [S.val]
    have abq := ab
    obtain ⟨ab0, ab1, ab2, ab3, ab4⟩ := abq
    have ablt : w.heap.size < w4.heap.size := by omega
    go_wp2_with fail
    obtain ⟨w5, hw5⟩ : ∃ W, W = w4.alloc (.cells #[.int .i64 vv.k, .int .i64 vv.n, .string vv.t, .slice vv.sa vv.s.length vv.sc, .slice vv.A vv.l.length vv.c] 52) := ⟨_, rfl⟩
    rw [← hw5]
    have hb5 : Below w4.heap.size w4 w5 := by rw [hw5]; exact (Below.refl _ _).alloc (Nat.le_refl _) _
    have z5 : w4.heap.size + 1 ≤ w5.heap.size := by rw [hw5]; simp
    have y5 : w5.heap.size ≤ w4.heap.size + 1 := by rw [hw5]; simp
    have wb : S.Box w5 w4.heap.size vv := by rw [hw5]; exact S.Box.new _ _ _
    clear hw5
    clear ab0 ab1 ab2 ab3 ab4 ablt
    have ab := ab.below hb5 (by omega)
    have v := v.below (hb5.mono (by omega))
    have b5 := b4.trans (hb5.mono (by omega))
    have i5 := ha.below b5
    clear hb5 i4
    refine (sto_any 2000000 a w.heap.size _ hbk hs (by omega) i5 (by omega)).mono ?_
    rintro e w6 ⟨xv, rfl, hexv, x, hb6⟩
    have z6 := hb6.size
    have ab := ab.below hb6 (by omega)
    have wb := wb.below hb6 (by omega)
    have v := v.below (hb6.mono (by omega))
    have b6 := b5.trans (hb6.mono (by omega))
    have i6 := ha.below b6
    clear hb6 i5
    have Qxv := Lib.hid hexv
    obtain ⟨sxv, kxv, wxv⟩ := S.bounds_of hexv (by rw [S.size_er]; omega) (by rw [S.bulk_er]; omega)
    clear hexv
    simp only [S.val]
    have abq := ab
    obtain ⟨ab0, ab1, ab2, ab3, ab4⟩ := abq
    have wbq := wb
    obtain ⟨wb0, wb1, wb2, wb3, wb4⟩ := wbq
    have ablt : w.heap.size < w6.heap.size := by omega
    have wblt : w4.heap.size < w6.heap.size := by omega
    go_wp2_with fail
    obtain ⟨w7, hw7⟩ : ∃ W, W = w6.alloc (.cells #[.int .i64 xv.k, .int .i64 xv.n, .string xv.t, .slice xv.sa xv.s.length xv.sc, .slice xv.A xv.l.length xv.c] 52) := ⟨_, rfl⟩
    rw [← hw7]
    have hb7 : Below w6.heap.size w6 w7 := by rw [hw7]; exact (Below.refl _ _).alloc (Nat.le_refl _) _
    have z7 : w6.heap.size + 1 ≤ w7.heap.size := by rw [hw7]; simp
    have y7 : w7.heap.size ≤ w6.heap.size + 1 := by rw [hw7]; simp
    have xb : S.Box w7 w6.heap.size xv := by rw [hw7]; exact S.Box.new _ _ _
    clear hw7
    clear ab0 ab1 ab2 ab3 ab4 ablt
    clear wb0 wb1 wb2 wb3 wb4 wblt
    have ab := ab.below hb7 (by omega)
    have wb := wb.below hb7 (by omega)
    have v := v.below (hb7.mono (by omega))
    have x := x.below (hb7.mono (by omega))
    have b7 := b6.trans (hb7.mono (by omega))
    have i7 := ha.below b7
    clear hb7 i6
    refine (implStrip_any xv w6.heap.size _ sxv (by omega) x.inn (by omega)).mono ?_
    rintro e w8 ⟨gv, rfl, heg, g, hb8⟩
    have z8 := hb8.size
    have ab := ab.below hb8 (by omega)
    have wb := wb.below hb8 (by omega)
    have xb := xb.below hb8 (by omega)
    have v := v.below (hb8.mono (by omega))
    have x := x.below (hb8.mono (by omega))
    have b8 := b7.trans (hb8.mono (by omega))
    have i8 := ha.below b8
    clear hb8 i7
    rw [S.resS_of_er (dropL) Qxv.out] at heg
    have Qg := Lib.hid heg
    obtain ⟨gs, gb, gw⟩ := S.res_bounds (dropL_len) heg hsz2
    clear heg
    have Egv : Hid (S.eqB gv vv = true) := S.eqB_of_er (Qg.out.trans Qv.out.symm)
    simp only [S.val]
    have abq := ab
    obtain ⟨ab0, ab1, ab2, ab3, ab4⟩ := abq
    have wbq := wb
    obtain ⟨wb0, wb1, wb2, wb3, wb4⟩ := wbq
    have xbq := xb
    obtain ⟨xb0, xb1, xb2, xb3, xb4⟩ := xbq
    have ablt : w.heap.size < w8.heap.size := by omega
    have wblt : w4.heap.size < w8.heap.size := by omega
    have xblt : w6.heap.size < w8.heap.size := by omega
    go_wp2_with fail
    obtain ⟨w9, hw9⟩ : ∃ W, W = w8.alloc (.cells #[.int .i64 gv.k, .int .i64 gv.n, .string gv.t, .slice gv.sa gv.s.length gv.sc, .slice gv.A gv.l.length gv.c] 52) := ⟨_, rfl⟩
    rw [← hw9]
    have hb9 : Below w8.heap.size w8 w9 := by rw [hw9]; exact (Below.refl _ _).alloc (Nat.le_refl _) _
    have z9 : w8.heap.size + 1 ≤ w9.heap.size := by rw [hw9]; simp
    have y9 : w9.heap.size ≤ w8.heap.size + 1 := by rw [hw9]; simp
    have gbx : S.Box w9 w8.heap.size gv := by rw [hw9]; exact S.Box.new _ _ _
    clear hw9
    clear ab0 ab1 ab2 ab3 ab4 ablt
    clear wb0 wb1 wb2 wb3 wb4 wblt
    clear xb0 xb1 xb2 xb3 xb4 xblt
    have ab := ab.below hb9 (by omega)
    have wb := wb.below hb9 (by omega)
    have xb := xb.below hb9 (by omega)
    have v := v.below (hb9.mono (by omega))
    have x := x.below (hb9.mono (by omega))
    have g := g.below (hb9.mono (by omega))
    have b9 := b8.trans (hb9.mono (by omega))
    have i9 := ha.below b9
    clear hb9 i8
    refine (seq_all 2000000 gv vv w9.heap.size _ (by omega) (g.inn.more (by omega)) (v.inn.more (by omega)) (Nat.le_refl _)).mono ?_
    rintro e w10 ⟨rfl, hb10⟩
    have z10 := hb10.size
    have ab := ab.below hb10 (by omega)
    have wb := wb.below hb10 (by omega)
    have xb := xb.below hb10 (by omega)
    have gbx := gbx.below hb10 (by omega)
    have v := v.below (hb10.mono (by omega))
    have x := x.below (hb10.mono (by omega))
    have g := g.below (hb10.mono (by omega))
    have b10 := b9.trans (hb10.mono (by omega))
    have i10 := ha.below b10
    clear hb10 i9
    rw [Egv.out]
    have abq := ab
    obtain ⟨ab0, ab1, ab2, ab3, ab4⟩ := abq
    have wbq := wb
    obtain ⟨wb0, wb1, wb2, wb3, wb4⟩ := wbq
    have xbq := xb
    obtain ⟨xb0, xb1, xb2, xb3, xb4⟩ := xbq
    have gbxq := gbx
    obtain ⟨gbx0, gbx1, gbx2, gbx3, gbx4⟩ := gbxq
    have ablt : w.heap.size < w10.heap.size := by omega
    have wblt : w4.heap.size < w10.heap.size := by omega
    have xblt : w6.heap.size < w10.heap.size := by omega
    have gbxlt : w8.heap.size < w10.heap.size := by omega
    go_wp2_with fail
    have jx := x.inn
    go_region_held3 (fun w' => w'.cell? ⟨w.heap.size, 0, none⟩ = some (.int .i64 a.k) ∧ w'.cell? ⟨w.heap.size, 1, none⟩ = some (.int .i64 a.n) ∧ w'.cell? ⟨w.heap.size, 2, none⟩ = some (.string a.t) ∧ w'.cell? ⟨w.heap.size, 3, none⟩ = some (.slice a.sa a.s.length a.sc) ∧ w'.cell? ⟨w.heap.size, 4, none⟩ = some (.slice a.A a.l.length a.c) ∧ w'.cell? ⟨w6.heap.size, 0, none⟩ = some (.int .i64 xv.k) ∧ w'.cell? ⟨w6.heap.size, 1, none⟩ = some (.int .i64 xv.n) ∧ w'.cell? ⟨w6.heap.size, 2, none⟩ = some (.string xv.t) ∧ w'.cell? ⟨w6.heap.size, 3, none⟩ = some (.slice xv.sa xv.s.length xv.sc) ∧ w'.cell? ⟨w6.heap.size, 4, none⟩ = some (.slice xv.A xv.l.length xv.c)) (go_keep)
      (first
        | (go_at_call 40; refine (sto_any 2000000 a w.heap.size _ hbk hs ?_ ?_ ?_).mono ?_; omega; exact i10.drew; (show w.heap.size ≤ w10.heap.size); omega; rintro e w11 ⟨yv, rfl, hey, oy, hb11⟩; have Qy := Lib.hid hey; clear hey; have hb11 : Below w10.heap.size w10 w11 := below_undrew hb11; have z11 : w10.heap.size ≤ w11.heap.size := hb11.size; have ab0' := (hb11.cell (p := ⟨w.heap.size, 0, none⟩) (show w.heap.size < w10.heap.size by omega)).trans ab0; have ab1' := (hb11.cell (p := ⟨w.heap.size, 1, none⟩) (show w.heap.size < w10.heap.size by omega)).trans ab1; have ab2' := (hb11.cell (p := ⟨w.heap.size, 2, none⟩) (show w.heap.size < w10.heap.size by omega)).trans ab2; have ab3' := (hb11.cell (p := ⟨w.heap.size, 3, none⟩) (show w.heap.size < w10.heap.size by omega)).trans ab3; have ab4' := (hb11.cell (p := ⟨w.heap.size, 4, none⟩) (show w.heap.size < w10.heap.size by omega)).trans ab4; have xb0' := (hb11.cell (p := ⟨w6.heap.size, 0, none⟩) (show w6.heap.size < w10.heap.size by omega)).trans xb0; have xb1' := (hb11.cell (p := ⟨w6.heap.size, 1, none⟩) (show w6.heap.size < w10.heap.size by omega)).trans xb1; have xb2' := (hb11.cell (p := ⟨w6.heap.size, 2, none⟩) (show w6.heap.size < w10.heap.size by omega)).trans xb2; have xb3' := (hb11.cell (p := ⟨w6.heap.size, 3, none⟩) (show w6.heap.size < w10.heap.size by omega)).trans xb3; have xb4' := (hb11.cell (p := ⟨w6.heap.size, 4, none⟩) (show w6.heap.size < w10.heap.size by omega)).trans xb4; have jx' := jx.below (hb11.mono (show w6.heap.size ≤ w10.heap.size by omega)))
        | (go_at_call 42; refine (seq_all 2000000 xv yv w11.heap.size _ ?_ ?_ ?_ ?_).mono ?_; omega; exact jx'.more (by omega); exact oy.inn; exact Nat.le_refl _; rintro e w12 ⟨rfl, hb12⟩; have z12 : w11.heap.size ≤ w12.heap.size := hb12.size; have ab0'' := (hb12.cell (p := ⟨w.heap.size, 0, none⟩) (show w.heap.size < w11.heap.size by omega)).trans ab0'; have ab1'' := (hb12.cell (p := ⟨w.heap.size, 1, none⟩) (show w.heap.size < w11.heap.size by omega)).trans ab1'; have ab2'' := (hb12.cell (p := ⟨w.heap.size, 2, none⟩) (show w.heap.size < w11.heap.size by omega)).trans ab2'; have ab3'' := (hb12.cell (p := ⟨w.heap.size, 3, none⟩) (show w.heap.size < w11.heap.size by omega)).trans ab3'; have ab4'' := (hb12.cell (p := ⟨w.heap.size, 4, none⟩) (show w.heap.size < w11.heap.size by omega)).trans ab4'; have xb0'' := (hb12.cell (p := ⟨w6.heap.size, 0, none⟩) (show w6.heap.size < w11.heap.size by omega)).trans xb0'; have xb1'' := (hb12.cell (p := ⟨w6.heap.size, 1, none⟩) (show w6.heap.size < w11.heap.size by omega)).trans xb1'; have xb2'' := (hb12.cell (p := ⟨w6.heap.size, 2, none⟩) (show w6.heap.size < w11.heap.size by omega)).trans xb2'; have xb3'' := (hb12.cell (p := ⟨w6.heap.size, 3, none⟩) (show w6.heap.size < w11.heap.size by omega)).trans xb3'; have xb4'' := (hb12.cell (p := ⟨w6.heap.size, 4, none⟩) (show w6.heap.size < w11.heap.size by omega)).trans xb4'))
    have E12 : S.eqB xv yv = true := S.eqB_of_er (Qxv.out.trans Qy.out.symm)
    rw [E12]
    clear ab0' ab1' ab2' ab3' ab4' xb0' xb1' xb2' xb3' xb4' ab0'' ab1'' ab2'' ab3'' ab4'' xb0'' xb1'' xb2'' xb3'' xb4'' jx jx' oy
    clear ab0 ab1 ab2 ab3 ab4 ablt
    clear wb0 wb1 wb2 wb3 wb4 wblt
    clear xb0 xb1 xb2 xb3 xb4 xblt
    clear gbx0 gbx1 gbx2 gbx3 gbx4 gbxlt
    have ab := (ab.below hb11 (by omega)).below hb12 (by omega)
    have wb := (wb.below hb11 (by omega)).below hb12 (by omega)
    have xb := (xb.below hb11 (by omega)).below hb12 (by omega)
    have gbx := (gbx.below hb11 (by omega)).below hb12 (by omega)
    have v := (v.below (hb11.mono (by omega))).below (hb12.mono (by omega))
    have x := (x.below (hb11.mono (by omega))).below (hb12.mono (by omega))
    have g := (g.below (hb11.mono (by omega))).below (hb12.mono (by omega))
    have b11 := b10.trans (hb11.mono (by omega))
    have b12 := b11.trans (hb12.mono (by omega))
    have i12 := ha.below b12
    clear hb11 hb12 i10
    have abq := ab
    obtain ⟨ab0, ab1, ab2, ab3, ab4⟩ := abq
    have wbq := wb
    obtain ⟨wb0, wb1, wb2, wb3, wb4⟩ := wbq
    have xbq := xb
    obtain ⟨xb0, xb1, xb2, xb3, xb4⟩ := xbq
    have gbxq := gbx
    obtain ⟨gbx0, gbx1, gbx2, gbx3, gbx4⟩ := gbxq
    have ablt : w.heap.size < w12.heap.size := by omega
    have wblt : w4.heap.size < w12.heap.size := by omega
    have xblt : w6.heap.size < w12.heap.size := by omega
    have gbxlt : w8.heap.size < w12.heap.size := by omega
    go_wp2_with fail
    refine (markSyn_any xv w5.heap.size w6.heap.size _ 1 (by omega) (by omega) (by omega) (by omega) (by omega) x (by omega)).mono ?_
    rintro e w13 ⟨rfl, xm, hc13⟩
    have z13 := hc13.size
    have hl13 : ∀ k ∈ S.blks xv, w5.heap.size ≤ k ∧ k < w6.heap.size := fun k hk => ⟨x.lo_ _ hk, x.inn.blk_lt _ hk⟩
    clear ab0 ab1 ab2 ab3 ab4 ablt
    clear wb0 wb1 wb2 wb3 wb4 wblt
    clear xb0 xb1 xb2 xb3 xb4 xblt
    clear gbx0 gbx1 gbx2 gbx3 gbx4 gbxlt
    have ab := ab.chg hc13 (by omega) (fun hm => by have := hl13 _ hm; omega)
    have wb := wb.chg hc13 (by omega) (fun hm => by have := hl13 _ hm; omega)
    have xb := xb.chg hc13 (by omega) (fun hm => by have := hl13 _ hm; omega)
    have gbx := gbx.chg hc13 (by omega) (fun hm => by have := hl13 _ hm; omega)
    have v := v.keepB (w' := w13) (fun k hk => hc13.block k (by have := v.inn.blk_lt _ hk; omega) (fun hm => by have := hl13 _ hm; have := v.inn.blk_lt _ hk; have := v.lo_ _ hk; omega))
    have g := g.keepB (w' := w13) (fun k hk => hc13.block k (by have := g.inn.blk_lt _ hk; omega) (fun hm => by have := hl13 _ hm; have := g.inn.blk_lt _ hk; have := g.lo_ _ hk; omega))
    have b13 : Below w.heap.size w w13 := b12.trans (hc13.below (fun k hk => by have := hl13 _ hk; omega) (by omega))
    have i13 := ha.below b13
    have x := xm
    clear hc13 hl13 xm i12
    clear x
    have n2 : ¬ (1 + (xv.s.length : Int) + (S.wtL xv.l : Int) < 0) := by omega
    have abq := ab
    obtain ⟨ab0, ab1, ab2, ab3, ab4⟩ := abq
    have wbq := wb
    obtain ⟨wb0, wb1, wb2, wb3, wb4⟩ := wbq
    have xbq := xb
    obtain ⟨xb0, xb1, xb2, xb3, xb4⟩ := xbq
    have gbxq := gbx
    obtain ⟨gbx0, gbx1, gbx2, gbx3, gbx4⟩ := gbxq
    have ablt : w.heap.size < w13.heap.size := by omega
    have wblt : w4.heap.size < w13.heap.size := by omega
    have xblt : w6.heap.size < w13.heap.size := by omega
    have gbxlt : w8.heap.size < w13.heap.size := by omega
    go_wp2_with fail
    refine (seq_all 2000000 gv vv w13.heap.size _ (by omega) (g.inn.more (by omega)) (v.inn.more (by omega)) (Nat.le_refl _)).mono ?_
    rintro e w14 ⟨rfl, hb14⟩
    have z14 := hb14.size
    clear ab0 ab1 ab2 ab3 ab4 ablt
    clear wb0 wb1 wb2 wb3 wb4 wblt
    clear xb0 xb1 xb2 xb3 xb4 xblt
    clear gbx0 gbx1 gbx2 gbx3 gbx4 gbxlt
    have ab := ab.below hb14 (by omega)
    have wb := wb.below hb14 (by omega)
    have xb := xb.below hb14 (by omega)
    have gbx := gbx.below hb14 (by omega)
    have v := v.below (hb14.mono (by omega))
    have g := g.below (hb14.mono (by omega))
    have b14 := b13.trans (hb14.mono (by omega))
    have i14 := ha.below b14
    clear hb14 i13
    rw [Egv.out]
    have abq := ab
    obtain ⟨ab0, ab1, ab2, ab3, ab4⟩ := abq
    have wbq := wb
    obtain ⟨wb0, wb1, wb2, wb3, wb4⟩ := wbq
    have xbq := xb
    obtain ⟨xb0, xb1, xb2, xb3, xb4⟩ := xbq
    have gbxq := gbx
    obtain ⟨gbx0, gbx1, gbx2, gbx3, gbx4⟩ := gbxq
    have ablt : w.heap.size < w14.heap.size := by omega
    have wblt : w4.heap.size < w14.heap.size := by omega
    have xblt : w6.heap.size < w14.heap.size := by omega
    have gbxlt : w8.heap.size < w14.heap.size := by omega
    go_wp2_with fail
    refine (markSyn_any gv w7.heap.size w8.heap.size _ 1 (by omega) (by omega) (by omega) (by omega) (by omega) g (by omega)).mono ?_
    rintro e w15 ⟨rfl, gm, hc15⟩
    have z15 := hc15.size
    have hl15 : ∀ k ∈ S.blks gv, w7.heap.size ≤ k ∧ k < w8.heap.size := fun k hk => ⟨g.lo_ _ hk, g.inn.blk_lt _ hk⟩
    clear ab0 ab1 ab2 ab3 ab4 ablt
    clear wb0 wb1 wb2 wb3 wb4 wblt
    clear xb0 xb1 xb2 xb3 xb4 xblt
    clear gbx0 gbx1 gbx2 gbx3 gbx4 gbxlt
    have ab := ab.chg hc15 (by omega) (fun hm => by have := hl15 _ hm; omega)
    have wb := wb.chg hc15 (by omega) (fun hm => by have := hl15 _ hm; omega)
    have xb := xb.chg hc15 (by omega) (fun hm => by have := hl15 _ hm; omega)
    have gbx := gbx.chg hc15 (by omega) (fun hm => by have := hl15 _ hm; omega)
    have v := v.keepB (w' := w15) (fun k hk => hc15.block k (by have := v.inn.blk_lt _ hk; omega) (fun hm => by have := hl15 _ hm; have := v.inn.blk_lt _ hk; have := v.lo_ _ hk; omega))
    have b15 : Below w.heap.size w w15 := b14.trans (hc15.below (fun k hk => by have := hl15 _ hk; omega) (by omega))
    have i15 := ha.below b15
    have g := gm
    clear hc15 hl15 gm i14
    have abq := ab
    obtain ⟨ab0, ab1, ab2, ab3, ab4⟩ := abq
    have wbq := wb
    obtain ⟨wb0, wb1, wb2, wb3, wb4⟩ := wbq
    have xbq := xb
    obtain ⟨xb0, xb1, xb2, xb3, xb4⟩ := xbq
    have gbxq := gbx
    obtain ⟨gbx0, gbx1, gbx2, gbx3, gbx4⟩ := gbxq
    have ablt : w.heap.size < w15.heap.size := by omega
    have wblt : w4.heap.size < w15.heap.size := by omega
    have xblt : w6.heap.size < w15.heap.size := by omega
    have gbxlt : w8.heap.size < w15.heap.size := by omega
    go_wp2_with fail
    refine (heldSyn_any gv w7.heap.size w8.heap.size _ 1 (by omega) (by omega) (by omega) (by omega) (by omega) g (by omega)).mono ?_
    rintro e w16 ⟨rfl, hb16⟩
    have z16 := hb16.size
    clear ab0 ab1 ab2 ab3 ab4 ablt
    clear wb0 wb1 wb2 wb3 wb4 wblt
    clear xb0 xb1 xb2 xb3 xb4 xblt
    clear gbx0 gbx1 gbx2 gbx3 gbx4 gbxlt
    have ab := ab.below hb16 (by omega)
    have wb := wb.below hb16 (by omega)
    have xb := xb.below hb16 (by omega)
    have gbx := gbx.below hb16 (by omega)
    have v := v.below (hb16.mono (by omega))
    have g := g.below (hb16.mono (by omega))
    have b16 := b15.trans (hb16.mono (by omega))
    have i16 := ha.below b16
    clear hb16 i15
    have n3 : ¬ (1 + (gv.s.length : Int) + (S.wtL gv.l : Int) < 0) := by omega
    have abq := ab
    obtain ⟨ab0, ab1, ab2, ab3, ab4⟩ := abq
    have wbq := wb
    obtain ⟨wb0, wb1, wb2, wb3, wb4⟩ := wbq
    have xbq := xb
    obtain ⟨xb0, xb1, xb2, xb3, xb4⟩ := xbq
    have gbxq := gbx
    obtain ⟨gbx0, gbx1, gbx2, gbx3, gbx4⟩ := gbxq
    have ablt : w.heap.size < w16.heap.size := by omega
    have wblt : w4.heap.size < w16.heap.size := by omega
    have xblt : w6.heap.size < w16.heap.size := by omega
    have gbxlt : w8.heap.size < w16.heap.size := by omega
    go_wp2_with fail
    refine (sto_any 2000000 a w.heap.size _ hbk hs (by omega) i16 (by omega)).mono ?_
    rintro e w17 ⟨d4, rfl, hed4, o4, hb17⟩
    have z17 := hb17.size
    clear ab0 ab1 ab2 ab3 ab4 ablt
    clear wb0 wb1 wb2 wb3 wb4 wblt
    clear xb0 xb1 xb2 xb3 xb4 xblt
    clear gbx0 gbx1 gbx2 gbx3 gbx4 gbxlt
    have ab := ab.below hb17 (by omega)
    have wb := wb.below hb17 (by omega)
    have xb := xb.below hb17 (by omega)
    have gbx := gbx.below hb17 (by omega)
    have v := v.below (hb17.mono (by omega))
    have g := g.below (hb17.mono (by omega))
    have b17 := b16.trans (hb17.mono (by omega))
    have i17 := ha.below b17
    clear hb17 i16
    have Qd4 := Lib.hid hed4
    obtain ⟨sd4, kd4, wd4⟩ := S.bounds_of hed4 (by rw [S.size_er]; omega) (by rw [S.bulk_er]; omega)
    clear hed4
    have abq := ab
    obtain ⟨ab0, ab1, ab2, ab3, ab4⟩ := abq
    have wbq := wb
    obtain ⟨wb0, wb1, wb2, wb3, wb4⟩ := wbq
    have xbq := xb
    obtain ⟨xb0, xb1, xb2, xb3, xb4⟩ := xbq
    have gbxq := gbx
    obtain ⟨gbx0, gbx1, gbx2, gbx3, gbx4⟩ := gbxq
    have ablt : w.heap.size < w17.heap.size := by omega
    have wblt : w4.heap.size < w17.heap.size := by omega
    have xblt : w6.heap.size < w17.heap.size := by omega
    have gbxlt : w8.heap.size < w17.heap.size := by omega
    go_wp2_with fail
    refine (implStrip_any d4 w17.heap.size _ sd4 (by omega) o4.inn (by omega)).mono ?_
    rintro e w18 ⟨hv, rfl, heh, h, hb18⟩
    have z18 := hb18.size
    clear ab0 ab1 ab2 ab3 ab4 ablt
    clear wb0 wb1 wb2 wb3 wb4 wblt
    clear xb0 xb1 xb2 xb3 xb4 xblt
    clear gbx0 gbx1 gbx2 gbx3 gbx4 gbxlt
    have ab := ab.below hb18 (by omega)
    have wb := wb.below hb18 (by omega)
    have xb := xb.below hb18 (by omega)
    have gbx := gbx.below hb18 (by omega)
    have v := v.below (hb18.mono (by omega))
    have g := g.below (hb18.mono (by omega))
    have b18 := b17.trans (hb18.mono (by omega))
    have i18 := ha.below b18
    clear hb18 i17
    rw [S.resS_of_er (dropL) Qd4.out] at heh
    have Qh := Lib.hid heh
    obtain ⟨hhs, hhb, hhw⟩ := S.res_bounds (dropL_len) heh hsz2
    clear heh o4
    have Ehv : Hid (S.eqB hv vv = true) := S.eqB_of_er (Qh.out.trans Qv.out.symm)
    simp only [S.val]
    have abq := ab
    obtain ⟨ab0, ab1, ab2, ab3, ab4⟩ := abq
    have wbq := wb
    obtain ⟨wb0, wb1, wb2, wb3, wb4⟩ := wbq
    have xbq := xb
    obtain ⟨xb0, xb1, xb2, xb3, xb4⟩ := xbq
    have gbxq := gbx
    obtain ⟨gbx0, gbx1, gbx2, gbx3, gbx4⟩ := gbxq
    have ablt : w.heap.size < w18.heap.size := by omega
    have wblt : w4.heap.size < w18.heap.size := by omega
    have xblt : w6.heap.size < w18.heap.size := by omega
    have gbxlt : w8.heap.size < w18.heap.size := by omega
    go_wp2_with fail
    obtain ⟨w19, hw19⟩ : ∃ W, W = w18.alloc (.cells #[.int .i64 hv.k, .int .i64 hv.n, .string hv.t, .slice hv.sa hv.s.length hv.sc, .slice hv.A hv.l.length hv.c] 52) := ⟨_, rfl⟩
    rw [← hw19]
    have hb19 : Below w18.heap.size w18 w19 := by rw [hw19]; exact (Below.refl _ _).alloc (Nat.le_refl _) _
    have z19 : w18.heap.size + 1 ≤ w19.heap.size := by rw [hw19]; simp
    have y19 : w19.heap.size ≤ w18.heap.size + 1 := by rw [hw19]; simp
    have hbx : S.Box w19 w18.heap.size hv := by rw [hw19]; exact S.Box.new _ _ _
    clear hw19
    clear ab0 ab1 ab2 ab3 ab4 ablt
    clear wb0 wb1 wb2 wb3 wb4 wblt
    clear xb0 xb1 xb2 xb3 xb4 xblt
    clear gbx0 gbx1 gbx2 gbx3 gbx4 gbxlt
    have ab := ab.below hb19 (by omega)
    have wb := wb.below hb19 (by omega)
    have xb := xb.below hb19 (by omega)
    have gbx := gbx.below hb19 (by omega)
    have v := v.below (hb19.mono (by omega))
    have g := g.below (hb19.mono (by omega))
    have h := h.below (hb19.mono (by omega))
    have b19 := b18.trans (hb19.mono (by omega))
    have i19 := ha.below b19
    clear hb19 i18
    refine (seq_all 2000000 hv vv w19.heap.size _ (by omega) (h.inn.more (by omega)) (v.inn.more (by omega)) (Nat.le_refl _)).mono ?_
    rintro e w20 ⟨rfl, hb20⟩
    have z20 := hb20.size
    have ab := ab.below hb20 (by omega)
    have wb := wb.below hb20 (by omega)
    have xb := xb.below hb20 (by omega)
    have gbx := gbx.below hb20 (by omega)
    have hbx := hbx.below hb20 (by omega)
    have v := v.below (hb20.mono (by omega))
    have g := g.below (hb20.mono (by omega))
    have h := h.below (hb20.mono (by omega))
    have b20 := b19.trans (hb20.mono (by omega))
    have i20 := ha.below b20
    clear hb20 i19
    rw [Ehv.out]
    have abq := ab
    obtain ⟨ab0, ab1, ab2, ab3, ab4⟩ := abq
    have wbq := wb
    obtain ⟨wb0, wb1, wb2, wb3, wb4⟩ := wbq
    have xbq := xb
    obtain ⟨xb0, xb1, xb2, xb3, xb4⟩ := xbq
    have gbxq := gbx
    obtain ⟨gbx0, gbx1, gbx2, gbx3, gbx4⟩ := gbxq
    have hbxq := hbx
    obtain ⟨hbx0, hbx1, hbx2, hbx3, hbx4⟩ := hbxq
    have ablt : w.heap.size < w20.heap.size := by omega
    have wblt : w4.heap.size < w20.heap.size := by omega
    have xblt : w6.heap.size < w20.heap.size := by omega
    have gbxlt : w8.heap.size < w20.heap.size := by omega
    have hbxlt : w18.heap.size < w20.heap.size := by omega
    go_wp2_with fail
    refine (heldSyn_any gv w7.heap.size w8.heap.size _ 1 (by omega) (by omega) (by omega) (by omega) (by omega) g (by omega)).mono ?_
    rintro e w21 ⟨rfl, hb21⟩
    have z21 := hb21.size
    clear ab0 ab1 ab2 ab3 ab4 ablt
    clear wb0 wb1 wb2 wb3 wb4 wblt
    clear xb0 xb1 xb2 xb3 xb4 xblt
    clear gbx0 gbx1 gbx2 gbx3 gbx4 gbxlt
    clear hbx0 hbx1 hbx2 hbx3 hbx4 hbxlt
    have ab := ab.below hb21 (by omega)
    have wb := wb.below hb21 (by omega)
    have xb := xb.below hb21 (by omega)
    have gbx := gbx.below hb21 (by omega)
    have hbx := hbx.below hb21 (by omega)
    have v := v.below (hb21.mono (by omega))
    have g := g.below (hb21.mono (by omega))
    have h := h.below (hb21.mono (by omega))
    have b21 := b20.trans (hb21.mono (by omega))
    have i21 := ha.below b21
    clear hb21 i20
    have abq := ab
    obtain ⟨ab0, ab1, ab2, ab3, ab4⟩ := abq
    have wbq := wb
    obtain ⟨wb0, wb1, wb2, wb3, wb4⟩ := wbq
    have xbq := xb
    obtain ⟨xb0, xb1, xb2, xb3, xb4⟩ := xbq
    have gbxq := gbx
    obtain ⟨gbx0, gbx1, gbx2, gbx3, gbx4⟩ := gbxq
    have hbxq := hbx
    obtain ⟨hbx0, hbx1, hbx2, hbx3, hbx4⟩ := hbxq
    have ablt : w.heap.size < w21.heap.size := by omega
    have wblt : w4.heap.size < w21.heap.size := by omega
    have xblt : w6.heap.size < w21.heap.size := by omega
    have gbxlt : w8.heap.size < w21.heap.size := by omega
    have hbxlt : w18.heap.size < w21.heap.size := by omega
    go_wp2_with fail
    go_ret
    exact ⟨rfl, b21⟩
  · go_enter Try.func8, Try.ntmps8
    go_wp2_with fail
    refine (ssz_any (a.size + 1) a w.heap.size _ 1048576 (by omega) (by omega) (by omega) (ha.alloc (Nat.le_refl _) _) (by simp)).mono ?_
    rintro e w1 ⟨rfl, hb1⟩
    rw [szR_no (by omega)]
    have b1 : Below w.heap.size w w1 := ((Below.refl _ _).alloc (Nat.le_refl _) _).trans (hb1.mono (by simp))
    clear hb1
    go_wp2_with fail
    go_ret
    exact ⟨rfl, b1⟩
end Go.Proofs.Ytiopophoioiafaa
