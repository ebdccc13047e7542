/-
  The law on SameIdentifier, walked.
-/
import Derived.Test.YtknplopghgchaaaSSame
import Derived.Deep.RegionHeld3
namespace Go.Proofs.Ytknplopghgchaaa
open Go.RowKit

set_option maxRecDepth 100000 in
set_option maxHeartbeats 2000000 in
theorem law_ssame (a b : S) (w : World) (ha : a.In w w.heap.size) (hb : b.In w w.heap.size) : Calls Try.prog 23 #[a.val, b.val] w fun e w' => e = .returned (.bool true) ∧ Below w.heap.size w w' := by
  have bb : Below w.heap.size w ((w.alloc (.cells #[.int .i64 a.k, .int .i64 a.n, .string a.t, .slice a.sa a.s.length a.sc, .slice a.A a.l.length a.c] 58)).alloc (.cells #[.int .i64 b.k, .int .i64 b.n, .string b.t, .slice b.sa b.s.length b.sc, .slice b.A b.l.length b.c] 58)) := ((Below.refl _ _).alloc (Nat.le_refl _) _).alloc (by simp) _
  have x0 := (S.Box.new w a 58).below ((Below.refl (w.heap.size + 1) _).alloc (by simp) (.cells #[.int .i64 b.k, .int .i64 b.n, .string b.t, .slice b.sa b.s.length b.sc, .slice b.A b.l.length b.c] 58)) (Nat.lt_succ_self _)
  have x1 := S.Box.new (w.alloc (.cells #[.int .i64 a.k, .int .i64 a.n, .string a.t, .slice a.sa a.s.length a.sc, .slice a.A a.l.length a.c] 58)) b 58
  simp only [World.size_alloc] at x1
  unfold S.val
  by_cases hsa : (a.bulk : Int) ≤ 1048576
  · have hs : a.size ≤ 2000000 := by have := S.bulk_size a; omega
    have hka : a.bulk ≤ 2000000 := by omega
    go_enter Try.func23, Try.ntmps23
    go_wp2_with fail
    refine (ssz_any 2000000 a w.heap.size _ 1048576 hs (by omega) (by omega) (ha.below bb) (by simp <;> omega)).mono ?_
    rintro e w1 ⟨rfl, hb1⟩
    rw [szR_yes (by omega)]
    have n1 : ¬ (1048576 - (a.bulk : Int) < 0) := by omega
    simp only [World.size_alloc] at hb1
    have z1 := hb1.size
    simp only [World.size_alloc] at z1
    obtain ⟨f00, f01, f02, f03, f04⟩ := S.Box.below (B := w.heap.size + 1 + 1) x0 hb1 (by omega)
    obtain ⟨f10, f11, f12, f13, f14⟩ := S.Box.below (B := w.heap.size + 1 + 1) x1 hb1 (by omega)
    have b1 : Below w.heap.size w w1 := bb.trans (hb1.mono (by omega))
    clear hb1 x0 x1 bb
    go_wp2_with fail
    by_cases hsb : (b.bulk : Int) ≤ 1048576 - a.bulk
    · have ht : b.size ≤ 2000000 := by have := S.bulk_size b; omega
      have hkb : b.bulk ≤ 2000000 := by omega
      refine (ssz_any 2000000 b w.heap.size _ _ ht (by omega) (by omega) (hb.below b1) (by omega)).mono ?_
      rintro e w2 ⟨rfl, hb2⟩
      rw [szR_yes (by omega)]
      have n2 : ¬ (1048576 - (a.bulk : Int) - (b.bulk : Int) < 0) := by omega
      have z2 := hb2.size
      obtain ⟨f00, f01, f02, f03, f04⟩ := S.Box.below (⟨f00, f01, f02, f03, f04⟩ : S.Box w1 w.heap.size a) hb2 (by omega)
      obtain ⟨f10, f11, f12, f13, f14⟩ := S.Box.below (⟨f10, f11, f12, f13, f14⟩ : S.Box w1 (w.heap.size + 1) b) hb2 (by omega)
      have b2 : Below w.heap.size w w2 := b1.trans (hb2.mono (by omega))
      have i2 := ha.below b2
      have i2' := hb.below b2
      clear hb2 b1
      go_wp2_with fail
      go_region_held3 (fun w' => w'.cell? ⟨w.heap.size, 0, none⟩ = some (.int .i64 a.k) ∧ w'.cell? ⟨w.heap.size, 1, none⟩ = some (.int .i64 a.n) ∧ w'.cell? ⟨w.heap.size, 2, none⟩ = some (.string a.t) ∧ w'.cell? ⟨w.heap.size, 3, none⟩ = some (.slice a.sa a.s.length a.sc) ∧ w'.cell? ⟨w.heap.size, 4, none⟩ = some (.slice a.A a.l.length a.c) ∧ w'.cell? ⟨w.heap.size + 1, 0, none⟩ = some (.int .i64 b.k) ∧ w'.cell? ⟨w.heap.size + 1, 1, none⟩ = some (.int .i64 b.n) ∧ w'.cell? ⟨w.heap.size + 1, 2, none⟩ = some (.string b.t) ∧ w'.cell? ⟨w.heap.size + 1, 3, none⟩ = some (.slice b.sa b.s.length b.sc) ∧ w'.cell? ⟨w.heap.size + 1, 4, none⟩ = some (.slice b.A b.l.length b.c)) (go_keep)
        (first
          | (go_at_call_of 65 (S.t a); refine (sto_any 2000000 a w.heap.size _ hka hs ?_ ?_ ?_).mono ?_; omega; exact i2.drew; (show w.heap.size ≤ w2.heap.size); omega; rintro e w3 ⟨d1, rfl, he1, o1, h3⟩; have Q1 := Lib.hid he1; clear he1; have h3 := below_undrew h3; have p00 := (h3.cell (p := ⟨w.heap.size, 0, none⟩) (show w.heap.size < w2.heap.size by omega)).trans f00; have p01 := (h3.cell (p := ⟨w.heap.size, 1, none⟩) (show w.heap.size < w2.heap.size by omega)).trans f01; have p02 := (h3.cell (p := ⟨w.heap.size, 2, none⟩) (show w.heap.size < w2.heap.size by omega)).trans f02; have p03 := (h3.cell (p := ⟨w.heap.size, 3, none⟩) (show w.heap.size < w2.heap.size by omega)).trans f03; have p04 := (h3.cell (p := ⟨w.heap.size, 4, none⟩) (show w.heap.size < w2.heap.size by omega)).trans f04; have p10 := (h3.cell (p := ⟨w.heap.size + 1, 0, none⟩) (show w.heap.size + 1 < w2.heap.size by omega)).trans f10; have p11 := (h3.cell (p := ⟨w.heap.size + 1, 1, none⟩) (show w.heap.size + 1 < w2.heap.size by omega)).trans f11; have p12 := (h3.cell (p := ⟨w.heap.size + 1, 2, none⟩) (show w.heap.size + 1 < w2.heap.size by omega)).trans f12; have p13 := (h3.cell (p := ⟨w.heap.size + 1, 3, none⟩) (show w.heap.size + 1 < w2.heap.size by omega)).trans f13; have p14 := (h3.cell (p := ⟨w.heap.size + 1, 4, none⟩) (show w.heap.size + 1 < w2.heap.size by omega)).trans f14; have z3 : w2.heap.size ≤ w3.heap.size := h3.size; have b3 := b2.trans (h3.mono (show w.heap.size ≤ w2.heap.size by omega)))
          | (go_at_call_of 65 (S.t b); refine (sto_any 2000000 b w.heap.size _ hkb ht ?_ ?_ ?_).mono ?_; omega; exact hb.below b3; omega; rintro e w4 ⟨d2, rfl, he2, o2, h4⟩; have Q2 := Lib.hid he2; clear he2; have q00 := (h4.cell (p := ⟨w.heap.size, 0, none⟩) (show w.heap.size < w3.heap.size by omega)).trans p00; have q01 := (h4.cell (p := ⟨w.heap.size, 1, none⟩) (show w.heap.size < w3.heap.size by omega)).trans p01; have q02 := (h4.cell (p := ⟨w.heap.size, 2, none⟩) (show w.heap.size < w3.heap.size by omega)).trans p02; have q03 := (h4.cell (p := ⟨w.heap.size, 3, none⟩) (show w.heap.size < w3.heap.size by omega)).trans p03; have q04 := (h4.cell (p := ⟨w.heap.size, 4, none⟩) (show w.heap.size < w3.heap.size by omega)).trans p04; have q10 := (h4.cell (p := ⟨w.heap.size + 1, 0, none⟩) (show w.heap.size + 1 < w3.heap.size by omega)).trans p10; have q11 := (h4.cell (p := ⟨w.heap.size + 1, 1, none⟩) (show w.heap.size + 1 < w3.heap.size by omega)).trans p11; have q12 := (h4.cell (p := ⟨w.heap.size + 1, 2, none⟩) (show w.heap.size + 1 < w3.heap.size by omega)).trans p12; have q13 := (h4.cell (p := ⟨w.heap.size + 1, 3, none⟩) (show w.heap.size + 1 < w3.heap.size by omega)).trans p13; have q14 := (h4.cell (p := ⟨w.heap.size + 1, 4, none⟩) (show w.heap.size + 1 < w3.heap.size by omega)).trans p14; have z4 : w3.heap.size ≤ w4.heap.size := h4.size; have b4 := b3.trans (h4.mono (show w.heap.size ≤ w3.heap.size by omega)); have j1 := o1.inn.below h4)
          | (go_at_call 86; refine (specSame_any 2000000 d1 d2 w4.heap.size _ ?_ ?_ ?_ ?_ ?_).mono ?_; (rw [S.size_of_er Q1.out]; exact hs); (rw [S.size_of_er Q2.out]; exact ht); exact j1.more z4; exact o2.inn; exact Nat.le_refl _; rintro e w5 ⟨rfl, h5⟩; have r00 := (h5.cell (p := ⟨w.heap.size, 0, none⟩) (show w.heap.size < w4.heap.size by omega)).trans q00; have r01 := (h5.cell (p := ⟨w.heap.size, 1, none⟩) (show w.heap.size < w4.heap.size by omega)).trans q01; have r02 := (h5.cell (p := ⟨w.heap.size, 2, none⟩) (show w.heap.size < w4.heap.size by omega)).trans q02; have r03 := (h5.cell (p := ⟨w.heap.size, 3, none⟩) (show w.heap.size < w4.heap.size by omega)).trans q03; have r04 := (h5.cell (p := ⟨w.heap.size, 4, none⟩) (show w.heap.size < w4.heap.size by omega)).trans q04; have r10 := (h5.cell (p := ⟨w.heap.size + 1, 0, none⟩) (show w.heap.size + 1 < w4.heap.size by omega)).trans q10; have r11 := (h5.cell (p := ⟨w.heap.size + 1, 1, none⟩) (show w.heap.size + 1 < w4.heap.size by omega)).trans q11; have r12 := (h5.cell (p := ⟨w.heap.size + 1, 2, none⟩) (show w.heap.size + 1 < w4.heap.size by omega)).trans q12; have r13 := (h5.cell (p := ⟨w.heap.size + 1, 3, none⟩) (show w.heap.size + 1 < w4.heap.size by omega)).trans q13; have r14 := (h5.cell (p := ⟨w.heap.size + 1, 4, none⟩) (show w.heap.size + 1 < w4.heap.size by omega)).trans q14; have z5 : w4.heap.size ≤ w5.heap.size := h5.size; have b5 := b4.trans (h5.mono (show w.heap.size ≤ w4.heap.size by omega))))
      have E1 : S.sameI d1 d2 = S.sameI a b := S.sameI_both Q1.out Q2.out
      rw [E1]
      go_wp2_with fail
      refine (sto_any 2000000 a w.heap.size _ hka hs (by omega) (ha.below b5) (by omega)).mono ?_
      rintro e w6 ⟨d3, rfl, he3, o3, h6⟩
      have Q3 := Lib.hid he3
      have z6 := h6.size
      have b6 := b5.trans (h6.mono (by omega))
      have y3 := S.Box.new w6 d3 63
      have n3 : w.heap.size < w6.heap.size := by omega
      have n3' : w.heap.size + 1 < w6.heap.size := by omega
      clear he3 b2 b3 b4 b5 i2 i2' j1 o1 o2
      obtain ⟨s00, s01, s02, s03, s04⟩ := S.Box.below (⟨r00, r01, r02, r03, r04⟩ : S.Box w5 w.heap.size a) h6 (by omega)
      obtain ⟨s10, s11, s12, s13, s14⟩ := S.Box.below (⟨r10, r11, r12, r13, r14⟩ : S.Box w5 (w.heap.size + 1) b) h6 (by omega)
      simp only [S.val]
      go_wp2_with fail
      refine (sto_any 2000000 b w.heap.size _ hkb ht (by omega) ((hb.below b6).alloc (by omega) _) (by simp <;> omega)).mono ?_
      rintro e w7 ⟨d4, rfl, he4, o4, h7⟩
      have Q4 := Lib.hid he4
      simp only [World.size_alloc] at h7 o4
      have z7 := h7.size
      simp only [World.size_alloc] at z7
      have q7 : Below w6.heap.size w6 w7 := ((Below.refl _ _).alloc (Nat.le_refl _) _).trans (h7.mono (by omega))
      have b7 := b6.trans (q7.mono (by omega))
      obtain ⟨s20, s21, s22, s23, s24⟩ := S.Box.below (B := w6.heap.size + 1) y3 h7 (by omega)
      have y4 := S.Box.new w7 d4 63
      have j3 := o3.inn.below q7
      have n4 : w.heap.size < w7.heap.size := by omega
      have n4' : w.heap.size + 1 < w7.heap.size := by omega
      have n4'' : w6.heap.size < w7.heap.size := by omega
      clear he4 h7 y3 b6 h6 o3
      obtain ⟨s00, s01, s02, s03, s04⟩ := S.Box.below (⟨s00, s01, s02, s03, s04⟩ : S.Box w6 w.heap.size a) q7 (by omega)
      obtain ⟨s10, s11, s12, s13, s14⟩ := S.Box.below (⟨s10, s11, s12, s13, s14⟩ : S.Box w6 (w.heap.size + 1) b) q7 (by omega)
      simp only [S.val]
      go_wp2_with fail
      refine (implSame_any 2000000 d3 d4 w7.heap.size _ (by rw [S.size_of_er Q3.out]; exact hs) ((j3.more (by omega)).alloc (Nat.le_refl _) _) (o4.inn.alloc (Nat.le_refl _) _) (by simp)).mono ?_
      rintro e w8 ⟨rfl, h8⟩
      have E2 : S.sameI d3 d4 = S.sameI a b := S.sameI_both Q3.out Q4.out
      rw [E2]
      simp only [World.size_alloc] at h8
      have z8 := h8.size
      simp only [World.size_alloc] at z8
      have q8 : Below w7.heap.size w7 w8 := ((Below.refl _ _).alloc (Nat.le_refl _) _).trans (h8.mono (by omega))
      have b8 := b7.trans (q8.mono (by omega))
      obtain ⟨s30, s31, s32, s33, s34⟩ := S.Box.below (B := w7.heap.size + 1) y4 h8 (by omega)
      obtain ⟨s20, s21, s22, s23, s24⟩ := S.Box.below (⟨s20, s21, s22, s23, s24⟩ : S.Box w7 w6.heap.size d3) q8 (by omega)
      have j3 := j3.below (q8.mono (by omega))
      have j4 := o4.inn.below q8
      clear h8 y4 b7 q7 o4 E1 E2
      obtain ⟨s00, s01, s02, s03, s04⟩ := S.Box.below (⟨s00, s01, s02, s03, s04⟩ : S.Box w7 w.heap.size a) q8 (by omega)
      obtain ⟨s10, s11, s12, s13, s14⟩ := S.Box.below (⟨s10, s11, s12, s13, s14⟩ : S.Box w7 (w.heap.size + 1) b) q8 (by omega)
      have hxx : (S.sameI a b != S.sameI a b) = false := by simp
      go_wp2_with fail
      go_region_held3 (fun w' => w'.cell? ⟨w.heap.size, 0, none⟩ = some (.int .i64 a.k) ∧ w'.cell? ⟨w.heap.size, 1, none⟩ = some (.int .i64 a.n) ∧ w'.cell? ⟨w.heap.size, 2, none⟩ = some (.string a.t) ∧ w'.cell? ⟨w.heap.size, 3, none⟩ = some (.slice a.sa a.s.length a.sc) ∧ w'.cell? ⟨w.heap.size, 4, none⟩ = some (.slice a.A a.l.length a.c) ∧ w'.cell? ⟨w.heap.size + 1, 0, none⟩ = some (.int .i64 b.k) ∧ w'.cell? ⟨w.heap.size + 1, 1, none⟩ = some (.int .i64 b.n) ∧ w'.cell? ⟨w.heap.size + 1, 2, none⟩ = some (.string b.t) ∧ w'.cell? ⟨w.heap.size + 1, 3, none⟩ = some (.slice b.sa b.s.length b.sc) ∧ w'.cell? ⟨w.heap.size + 1, 4, none⟩ = some (.slice b.A b.l.length b.c) ∧ w'.cell? ⟨w6.heap.size, 0, none⟩ = some (.int .i64 d3.k) ∧ w'.cell? ⟨w6.heap.size, 1, none⟩ = some (.int .i64 d3.n) ∧ w'.cell? ⟨w6.heap.size, 2, none⟩ = some (.string d3.t) ∧ w'.cell? ⟨w6.heap.size, 3, none⟩ = some (.slice d3.sa d3.s.length d3.sc) ∧ w'.cell? ⟨w6.heap.size, 4, none⟩ = some (.slice d3.A d3.l.length d3.c) ∧ w'.cell? ⟨w7.heap.size, 0, none⟩ = some (.int .i64 d4.k) ∧ w'.cell? ⟨w7.heap.size, 1, none⟩ = some (.int .i64 d4.n) ∧ w'.cell? ⟨w7.heap.size, 2, none⟩ = some (.string d4.t) ∧ w'.cell? ⟨w7.heap.size, 3, none⟩ = some (.slice d4.sa d4.s.length d4.sc) ∧ w'.cell? ⟨w7.heap.size, 4, none⟩ = some (.slice d4.A d4.l.length d4.c)) (go_keep)
        (first
          | (go_at_call 65; refine (sto_any 2000000 a w.heap.size _ hka hs ?_ ?_ ?_).mono ?_; omega; exact (ha.below b8).drew; (show w.heap.size ≤ w8.heap.size); omega; rintro e w9 ⟨e9, rfl, he9, oo9, h9⟩; have P9 := Lib.hid he9; clear he9; have h9 := below_undrew h9; have t00 := (h9.cell (p := ⟨w.heap.size, 0, none⟩) (show w.heap.size < w8.heap.size by omega)).trans s00; have t01 := (h9.cell (p := ⟨w.heap.size, 1, none⟩) (show w.heap.size < w8.heap.size by omega)).trans s01; have t02 := (h9.cell (p := ⟨w.heap.size, 2, none⟩) (show w.heap.size < w8.heap.size by omega)).trans s02; have t03 := (h9.cell (p := ⟨w.heap.size, 3, none⟩) (show w.heap.size < w8.heap.size by omega)).trans s03; have t04 := (h9.cell (p := ⟨w.heap.size, 4, none⟩) (show w.heap.size < w8.heap.size by omega)).trans s04; have t10 := (h9.cell (p := ⟨w.heap.size + 1, 0, none⟩) (show w.heap.size + 1 < w8.heap.size by omega)).trans s10; have t11 := (h9.cell (p := ⟨w.heap.size + 1, 1, none⟩) (show w.heap.size + 1 < w8.heap.size by omega)).trans s11; have t12 := (h9.cell (p := ⟨w.heap.size + 1, 2, none⟩) (show w.heap.size + 1 < w8.heap.size by omega)).trans s12; have t13 := (h9.cell (p := ⟨w.heap.size + 1, 3, none⟩) (show w.heap.size + 1 < w8.heap.size by omega)).trans s13; have t14 := (h9.cell (p := ⟨w.heap.size + 1, 4, none⟩) (show w.heap.size + 1 < w8.heap.size by omega)).trans s14; have t20 := (h9.cell (p := ⟨w6.heap.size, 0, none⟩) (show w6.heap.size < w8.heap.size by omega)).trans s20; have t21 := (h9.cell (p := ⟨w6.heap.size, 1, none⟩) (show w6.heap.size < w8.heap.size by omega)).trans s21; have t22 := (h9.cell (p := ⟨w6.heap.size, 2, none⟩) (show w6.heap.size < w8.heap.size by omega)).trans s22; have t23 := (h9.cell (p := ⟨w6.heap.size, 3, none⟩) (show w6.heap.size < w8.heap.size by omega)).trans s23; have t24 := (h9.cell (p := ⟨w6.heap.size, 4, none⟩) (show w6.heap.size < w8.heap.size by omega)).trans s24; have t30 := (h9.cell (p := ⟨w7.heap.size, 0, none⟩) (show w7.heap.size < w8.heap.size by omega)).trans s30; have t31 := (h9.cell (p := ⟨w7.heap.size, 1, none⟩) (show w7.heap.size < w8.heap.size by omega)).trans s31; have t32 := (h9.cell (p := ⟨w7.heap.size, 2, none⟩) (show w7.heap.size < w8.heap.size by omega)).trans s32; have t33 := (h9.cell (p := ⟨w7.heap.size, 3, none⟩) (show w7.heap.size < w8.heap.size by omega)).trans s33; have t34 := (h9.cell (p := ⟨w7.heap.size, 4, none⟩) (show w7.heap.size < w8.heap.size by omega)).trans s34; have z9 : w8.heap.size ≤ w9.heap.size := h9.size; have b9 := b8.trans (h9.mono (show w.heap.size ≤ w8.heap.size by omega)); have jj9 := j3.below (h9.mono (show w6.heap.size ≤ w8.heap.size by omega)))
          | (go_at_call 67; refine (seq_all 2000000 d3 e9 w9.heap.size _ ?_ ?_ ?_ ?_).mono ?_; (rw [S.size_of_er Q3.out]; omega); exact jj9.more (by omega); exact oo9.inn; exact Nat.le_refl _; rintro e w10 ⟨rfl, h10⟩; have u00 := (h10.cell (p := ⟨w.heap.size, 0, none⟩) (show w.heap.size < w9.heap.size by omega)).trans t00; have u01 := (h10.cell (p := ⟨w.heap.size, 1, none⟩) (show w.heap.size < w9.heap.size by omega)).trans t01; have u02 := (h10.cell (p := ⟨w.heap.size, 2, none⟩) (show w.heap.size < w9.heap.size by omega)).trans t02; have u03 := (h10.cell (p := ⟨w.heap.size, 3, none⟩) (show w.heap.size < w9.heap.size by omega)).trans t03; have u04 := (h10.cell (p := ⟨w.heap.size, 4, none⟩) (show w.heap.size < w9.heap.size by omega)).trans t04; have u10 := (h10.cell (p := ⟨w.heap.size + 1, 0, none⟩) (show w.heap.size + 1 < w9.heap.size by omega)).trans t10; have u11 := (h10.cell (p := ⟨w.heap.size + 1, 1, none⟩) (show w.heap.size + 1 < w9.heap.size by omega)).trans t11; have u12 := (h10.cell (p := ⟨w.heap.size + 1, 2, none⟩) (show w.heap.size + 1 < w9.heap.size by omega)).trans t12; have u13 := (h10.cell (p := ⟨w.heap.size + 1, 3, none⟩) (show w.heap.size + 1 < w9.heap.size by omega)).trans t13; have u14 := (h10.cell (p := ⟨w.heap.size + 1, 4, none⟩) (show w.heap.size + 1 < w9.heap.size by omega)).trans t14; have u20 := (h10.cell (p := ⟨w6.heap.size, 0, none⟩) (show w6.heap.size < w9.heap.size by omega)).trans t20; have u21 := (h10.cell (p := ⟨w6.heap.size, 1, none⟩) (show w6.heap.size < w9.heap.size by omega)).trans t21; have u22 := (h10.cell (p := ⟨w6.heap.size, 2, none⟩) (show w6.heap.size < w9.heap.size by omega)).trans t22; have u23 := (h10.cell (p := ⟨w6.heap.size, 3, none⟩) (show w6.heap.size < w9.heap.size by omega)).trans t23; have u24 := (h10.cell (p := ⟨w6.heap.size, 4, none⟩) (show w6.heap.size < w9.heap.size by omega)).trans t24; have u30 := (h10.cell (p := ⟨w7.heap.size, 0, none⟩) (show w7.heap.size < w9.heap.size by omega)).trans t30; have u31 := (h10.cell (p := ⟨w7.heap.size, 1, none⟩) (show w7.heap.size < w9.heap.size by omega)).trans t31; have u32 := (h10.cell (p := ⟨w7.heap.size, 2, none⟩) (show w7.heap.size < w9.heap.size by omega)).trans t32; have u33 := (h10.cell (p := ⟨w7.heap.size, 3, none⟩) (show w7.heap.size < w9.heap.size by omega)).trans t33; have u34 := (h10.cell (p := ⟨w7.heap.size, 4, none⟩) (show w7.heap.size < w9.heap.size by omega)).trans t34; have z10 : w9.heap.size ≤ w10.heap.size := h10.size; have b10 := b9.trans (h10.mono (show w.heap.size ≤ w9.heap.size by omega))))
      have E9 : S.eqB d3 e9 = true := S.eqB_of_er (Q3.out.trans P9.out.symm)
      rw [E9]
      have j4 := (j4.below (h9.mono (show w7.heap.size ≤ w8.heap.size by omega))).below (h10.mono (show w7.heap.size ≤ w9.heap.size by omega))
      go_wp2_with fail
      go_region_held3 (fun w' => w'.cell? ⟨w.heap.size, 0, none⟩ = some (.int .i64 a.k) ∧ w'.cell? ⟨w.heap.size, 1, none⟩ = some (.int .i64 a.n) ∧ w'.cell? ⟨w.heap.size, 2, none⟩ = some (.string a.t) ∧ w'.cell? ⟨w.heap.size, 3, none⟩ = some (.slice a.sa a.s.length a.sc) ∧ w'.cell? ⟨w.heap.size, 4, none⟩ = some (.slice a.A a.l.length a.c) ∧ w'.cell? ⟨w.heap.size + 1, 0, none⟩ = some (.int .i64 b.k) ∧ w'.cell? ⟨w.heap.size + 1, 1, none⟩ = some (.int .i64 b.n) ∧ w'.cell? ⟨w.heap.size + 1, 2, none⟩ = some (.string b.t) ∧ w'.cell? ⟨w.heap.size + 1, 3, none⟩ = some (.slice b.sa b.s.length b.sc) ∧ w'.cell? ⟨w.heap.size + 1, 4, none⟩ = some (.slice b.A b.l.length b.c) ∧ w'.cell? ⟨w6.heap.size, 0, none⟩ = some (.int .i64 d3.k) ∧ w'.cell? ⟨w6.heap.size, 1, none⟩ = some (.int .i64 d3.n) ∧ w'.cell? ⟨w6.heap.size, 2, none⟩ = some (.string d3.t) ∧ w'.cell? ⟨w6.heap.size, 3, none⟩ = some (.slice d3.sa d3.s.length d3.sc) ∧ w'.cell? ⟨w6.heap.size, 4, none⟩ = some (.slice d3.A d3.l.length d3.c) ∧ w'.cell? ⟨w7.heap.size, 0, none⟩ = some (.int .i64 d4.k) ∧ w'.cell? ⟨w7.heap.size, 1, none⟩ = some (.int .i64 d4.n) ∧ w'.cell? ⟨w7.heap.size, 2, none⟩ = some (.string d4.t) ∧ w'.cell? ⟨w7.heap.size, 3, none⟩ = some (.slice d4.sa d4.s.length d4.sc) ∧ w'.cell? ⟨w7.heap.size, 4, none⟩ = some (.slice d4.A d4.l.length d4.c)) (go_keep)
        (first
          | (go_at_call 65; refine (sto_any 2000000 b w.heap.size _ hkb ht ?_ ?_ ?_).mono ?_; omega; exact (hb.below b10).drew; (show w.heap.size ≤ w10.heap.size); omega; rintro e w11 ⟨e11, rfl, he11, oo11, h11⟩; have P11 := Lib.hid he11; clear he11; have h11 := below_undrew h11; have v00 := (h11.cell (p := ⟨w.heap.size, 0, none⟩) (show w.heap.size < w10.heap.size by omega)).trans u00; have v01 := (h11.cell (p := ⟨w.heap.size, 1, none⟩) (show w.heap.size < w10.heap.size by omega)).trans u01; have v02 := (h11.cell (p := ⟨w.heap.size, 2, none⟩) (show w.heap.size < w10.heap.size by omega)).trans u02; have v03 := (h11.cell (p := ⟨w.heap.size, 3, none⟩) (show w.heap.size < w10.heap.size by omega)).trans u03; have v04 := (h11.cell (p := ⟨w.heap.size, 4, none⟩) (show w.heap.size < w10.heap.size by omega)).trans u04; have v10 := (h11.cell (p := ⟨w.heap.size + 1, 0, none⟩) (show w.heap.size + 1 < w10.heap.size by omega)).trans u10; have v11 := (h11.cell (p := ⟨w.heap.size + 1, 1, none⟩) (show w.heap.size + 1 < w10.heap.size by omega)).trans u11; have v12 := (h11.cell (p := ⟨w.heap.size + 1, 2, none⟩) (show w.heap.size + 1 < w10.heap.size by omega)).trans u12; have v13 := (h11.cell (p := ⟨w.heap.size + 1, 3, none⟩) (show w.heap.size + 1 < w10.heap.size by omega)).trans u13; have v14 := (h11.cell (p := ⟨w.heap.size + 1, 4, none⟩) (show w.heap.size + 1 < w10.heap.size by omega)).trans u14; have v20 := (h11.cell (p := ⟨w6.heap.size, 0, none⟩) (show w6.heap.size < w10.heap.size by omega)).trans u20; have v21 := (h11.cell (p := ⟨w6.heap.size, 1, none⟩) (show w6.heap.size < w10.heap.size by omega)).trans u21; have v22 := (h11.cell (p := ⟨w6.heap.size, 2, none⟩) (show w6.heap.size < w10.heap.size by omega)).trans u22; have v23 := (h11.cell (p := ⟨w6.heap.size, 3, none⟩) (show w6.heap.size < w10.heap.size by omega)).trans u23; have v24 := (h11.cell (p := ⟨w6.heap.size, 4, none⟩) (show w6.heap.size < w10.heap.size by omega)).trans u24; have v30 := (h11.cell (p := ⟨w7.heap.size, 0, none⟩) (show w7.heap.size < w10.heap.size by omega)).trans u30; have v31 := (h11.cell (p := ⟨w7.heap.size, 1, none⟩) (show w7.heap.size < w10.heap.size by omega)).trans u31; have v32 := (h11.cell (p := ⟨w7.heap.size, 2, none⟩) (show w7.heap.size < w10.heap.size by omega)).trans u32; have v33 := (h11.cell (p := ⟨w7.heap.size, 3, none⟩) (show w7.heap.size < w10.heap.size by omega)).trans u33; have v34 := (h11.cell (p := ⟨w7.heap.size, 4, none⟩) (show w7.heap.size < w10.heap.size by omega)).trans u34; have z11 : w10.heap.size ≤ w11.heap.size := h11.size; have b11 := b10.trans (h11.mono (show w.heap.size ≤ w10.heap.size by omega)); have jj11 := j4.below (h11.mono (show w7.heap.size ≤ w10.heap.size by omega)))
          | (go_at_call 67; refine (seq_all 2000000 d4 e11 w11.heap.size _ ?_ ?_ ?_ ?_).mono ?_; (rw [S.size_of_er Q4.out]; omega); exact jj11.more (by omega); exact oo11.inn; exact Nat.le_refl _; rintro e w12 ⟨rfl, h12⟩; have x00 := (h12.cell (p := ⟨w.heap.size, 0, none⟩) (show w.heap.size < w11.heap.size by omega)).trans v00; have x01 := (h12.cell (p := ⟨w.heap.size, 1, none⟩) (show w.heap.size < w11.heap.size by omega)).trans v01; have x02 := (h12.cell (p := ⟨w.heap.size, 2, none⟩) (show w.heap.size < w11.heap.size by omega)).trans v02; have x03 := (h12.cell (p := ⟨w.heap.size, 3, none⟩) (show w.heap.size < w11.heap.size by omega)).trans v03; have x04 := (h12.cell (p := ⟨w.heap.size, 4, none⟩) (show w.heap.size < w11.heap.size by omega)).trans v04; have x10 := (h12.cell (p := ⟨w.heap.size + 1, 0, none⟩) (show w.heap.size + 1 < w11.heap.size by omega)).trans v10; have x11 := (h12.cell (p := ⟨w.heap.size + 1, 1, none⟩) (show w.heap.size + 1 < w11.heap.size by omega)).trans v11; have x12 := (h12.cell (p := ⟨w.heap.size + 1, 2, none⟩) (show w.heap.size + 1 < w11.heap.size by omega)).trans v12; have x13 := (h12.cell (p := ⟨w.heap.size + 1, 3, none⟩) (show w.heap.size + 1 < w11.heap.size by omega)).trans v13; have x14 := (h12.cell (p := ⟨w.heap.size + 1, 4, none⟩) (show w.heap.size + 1 < w11.heap.size by omega)).trans v14; have x20 := (h12.cell (p := ⟨w6.heap.size, 0, none⟩) (show w6.heap.size < w11.heap.size by omega)).trans v20; have x21 := (h12.cell (p := ⟨w6.heap.size, 1, none⟩) (show w6.heap.size < w11.heap.size by omega)).trans v21; have x22 := (h12.cell (p := ⟨w6.heap.size, 2, none⟩) (show w6.heap.size < w11.heap.size by omega)).trans v22; have x23 := (h12.cell (p := ⟨w6.heap.size, 3, none⟩) (show w6.heap.size < w11.heap.size by omega)).trans v23; have x24 := (h12.cell (p := ⟨w6.heap.size, 4, none⟩) (show w6.heap.size < w11.heap.size by omega)).trans v24; have x30 := (h12.cell (p := ⟨w7.heap.size, 0, none⟩) (show w7.heap.size < w11.heap.size by omega)).trans v30; have x31 := (h12.cell (p := ⟨w7.heap.size, 1, none⟩) (show w7.heap.size < w11.heap.size by omega)).trans v31; have x32 := (h12.cell (p := ⟨w7.heap.size, 2, none⟩) (show w7.heap.size < w11.heap.size by omega)).trans v32; have x33 := (h12.cell (p := ⟨w7.heap.size, 3, none⟩) (show w7.heap.size < w11.heap.size by omega)).trans v33; have x34 := (h12.cell (p := ⟨w7.heap.size, 4, none⟩) (show w7.heap.size < w11.heap.size by omega)).trans v34; have z12 : w11.heap.size ≤ w12.heap.size := h12.size; have b12 := b11.trans (h12.mono (show w.heap.size ≤ w11.heap.size by omega))))
      have E11 : S.eqB d4 e11 = true := S.eqB_of_er (Q4.out.trans P11.out.symm)
      rw [E11]
      go_wp2_with fail
      go_ret
      exact ⟨rfl, b12⟩
    · refine (ssz_any (b.size + 1) b w.heap.size _ _ (by omega) (by omega) (by omega) (hb.below b1) (by omega)).mono ?_
      rintro e w2 ⟨rfl, hb2⟩
      rw [szR_no (by omega)]
      have b2 : Below w.heap.size w w2 := b1.trans (hb2.mono (by omega))
      clear hb2 b1
      go_wp2_with fail
      go_ret
      exact ⟨rfl, b2⟩
  · go_enter Try.func23, Try.ntmps23
    go_wp2_with fail
    refine (ssz_any (a.size + 1) a w.heap.size _ 1048576 (by omega) (by omega) (by omega) (ha.below bb) (by simp <;> omega)).mono ?_
    rintro e w1 ⟨rfl, hb1⟩
    rw [szR_no (by omega)]
    have b1 : Below w.heap.size w w1 := bb.trans (hb1.mono (by simp <;> omega))
    clear hb1 x0 x1 bb
    go_wp2_with fail
    go_ret
    exact ⟨rfl, b1⟩
end Go.Proofs.Ytknplopghgchaaa
