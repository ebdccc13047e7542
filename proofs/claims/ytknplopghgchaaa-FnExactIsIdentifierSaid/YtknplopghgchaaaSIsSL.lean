/-
  The laws on IsSyntax and IsIdentifier, walked.
-/
import Derived.Test.YtknplopghgchaaaSIdent
import Derived.Deep.RegionHeld3
namespace Go.Proofs.Ytknplopghgchaaa
open Go.RowKit

set_option maxRecDepth 100000 in
set_option maxHeartbeats 1000000 in
theorem law_sis (a : S) (w : World) (ha : a.In w w.heap.size) : Calls Try.prog 15 #[a.val] w fun e w' => e = .returned (.bool true) ∧ Below w.heap.size w w' := by
  have x0 := S.Box.new w a 58
  unfold S.val
  by_cases hsz : (a.bulk : Int) ≤ 1048576
  · have hs : a.size ≤ 2000000 := by have := S.bulk_size a; omega
    have hbk : a.bulk ≤ 2000000 := by omega
    go_enter Try.func15, Try.ntmps15
    go_wp2_with fail
    refine (ssz_any 2000000 a w.heap.size _ 1048576 hs (by omega) (by omega) (ha.alloc (Nat.le_refl _) _) (by simp)).mono ?_
    rintro e w1 ⟨rfl, hb1⟩
    rw [szR_yes (by omega)]
    have n1 : ¬ (1048576 - (a.bulk : Int) < 0) := by omega
    simp only [World.size_alloc] at hb1
    have z1 := hb1.size
    simp only [World.size_alloc] at z1
    have x0 := S.Box.below (B := w.heap.size + 1) x0 hb1 (by omega)
    have b1 : Below w.heap.size w w1 := ((Below.refl _ _).alloc (Nat.le_refl _) _).trans (hb1.mono (by omega))
    have i1 := ha.below b1
    clear hb1
    obtain ⟨f0, f1, f2, f3, f4⟩ := x0
    go_wp2_with fail
    refine (sto_any 2000000 a w.heap.size _ hbk hs (by omega) i1 (by omega)).mono ?_
    rintro e w2 ⟨d1, rfl, he1, ho1, hb2⟩
    have Q1 := Lib.hid he1
    have s1 : d1.size ≤ 2000000 := by rw [S.size_of_er he1]; exact hs
    have z2 := hb2.size
    have x0 := S.Box.below (⟨f0, f1, f2, f3, f4⟩ : S.Box w1 w.heap.size a) hb2 (by omega)
    have b2 := b1.trans (hb2.mono (by omega))
    have i2 := ha.below b2
    clear hb2 he1 f0 f1 f2 f3 f4
    obtain ⟨f0, f1, f2, f3, f4⟩ := x0
    go_wp2_with fail
    refine (specIsS_any d1 w2.heap.size _ ho1.inn (Nat.le_refl _) s1).mono ?_
    rintro e w3 ⟨rfl, hb3⟩
    have z3 := hb3.size
    have x0 := S.Box.below (⟨f0, f1, f2, f3, f4⟩ : S.Box w2 w.heap.size a) hb3 (by omega)
    have b3 := b2.trans (hb3.mono (by omega))
    have i3 := ha.below b3
    clear hb3 f0 f1 f2 f3 f4
    rw [S.isS_of_er Q1.out]
    obtain ⟨f0, f1, f2, f3, f4⟩ := x0
    go_wp2_with fail
    refine (sto_any 2000000 a w.heap.size _ hbk hs (by omega) i3 (by omega)).mono ?_
    rintro e w4 ⟨d2, rfl, he2, ho2, hb4⟩
    have Q2 := Lib.hid he2
    have s2 : d2.size ≤ 2000000 := by rw [S.size_of_er he2]; exact hs
    have z4 := hb4.size
    have x0 := S.Box.below (⟨f0, f1, f2, f3, f4⟩ : S.Box w3 w.heap.size a) hb4 (by omega)
    have b4 := b3.trans (hb4.mono (by omega))
    have i4 := ha.below b4
    have y := S.Box.new w4 d2 63
    have n2 : w.heap.size < w4.heap.size := by omega
    clear hb4 he2 f0 f1 f2 f3 f4 i3
    obtain ⟨f0, f1, f2, f3, f4⟩ := x0
    simp only [S.val]
    go_wp2_with fail
    refine (implIsS_any d2 w4.heap.size _ (ho2.inn.alloc (Nat.le_refl _) _) (by simp)).mono ?_
    rintro e w5 ⟨rfl, hb5⟩
    rw [S.isS_of_er Q2.out]
    have hxx : (a.isS != a.isS) = false := by simp
    simp only [World.size_alloc] at hb5
    have z5 := hb5.size
    simp only [World.size_alloc] at z5
    have y := S.Box.below (B := w4.heap.size + 1) y hb5 (by omega)
    have q5 : Below w4.heap.size w4 w5 := ((Below.refl _ _).alloc (Nat.le_refl _) _).trans (hb5.mono (by omega))
    have x0 := S.Box.below (⟨f0, f1, f2, f3, f4⟩ : S.Box w4 w.heap.size a) q5 (by omega)
    have b5 := b4.trans (q5.mono (by omega))
    have i5 := ha.below b5
    have j2 := ho2.inn.below q5
    clear hb5 q5 ho2 f0 f1 f2 f3 f4
    obtain ⟨f0, f1, f2, f3, f4⟩ := x0
    obtain ⟨g0, g1, g2, g3, g4⟩ := y
    go_wp2_with fail
    go_region_held3 (fun w' => w'.cell? ⟨w.heap.size, 0, none⟩ = some (.int .i64 a.k) ∧ w'.cell? ⟨w.heap.size, 1, none⟩ = some (.int .i64 a.n) ∧ w'.cell? ⟨w.heap.size, 2, none⟩ = some (.string a.t) ∧ w'.cell? ⟨w.heap.size, 3, none⟩ = some (.slice a.sa a.s.length a.sc) ∧ w'.cell? ⟨w.heap.size, 4, none⟩ = some (.slice a.A a.l.length a.c) ∧
        w'.cell? ⟨w4.heap.size, 0, none⟩ = some (.int .i64 d2.k) ∧ w'.cell? ⟨w4.heap.size, 1, none⟩ = some (.int .i64 d2.n) ∧ w'.cell? ⟨w4.heap.size, 2, none⟩ = some (.string d2.t) ∧ w'.cell? ⟨w4.heap.size, 3, none⟩ = some (.slice d2.sa d2.s.length d2.sc) ∧ w'.cell? ⟨w4.heap.size, 4, none⟩ = some (.slice d2.A d2.l.length d2.c)) (go_keep)
      (first
        | (go_at_call 65; refine (sto_any 2000000 a w.heap.size _ hbk hs ?_ ?_ ?_).mono ?_; omega; exact i5.drew; (show w.heap.size ≤ w5.heap.size); omega; rintro e w6 ⟨d3, rfl, he3, ho3, hb6⟩; have Q3 := Lib.hid he3; clear he3; have hb6 := below_undrew hb6; have p1 : w.heap.size < w5.heap.size := (by omega); have p2 : w4.heap.size < w5.heap.size := (by omega); have f0' := (hb6.cell (p := ⟨w.heap.size, 0, none⟩) p1).trans f0; have f1' := (hb6.cell (p := ⟨w.heap.size, 1, none⟩) p1).trans f1; have f2' := (hb6.cell (p := ⟨w.heap.size, 2, none⟩) p1).trans f2; have f3' := (hb6.cell (p := ⟨w.heap.size, 3, none⟩) p1).trans f3; have f4' := (hb6.cell (p := ⟨w.heap.size, 4, none⟩) p1).trans f4; have g0' := (hb6.cell (p := ⟨w4.heap.size, 0, none⟩) p2).trans g0; have g1' := (hb6.cell (p := ⟨w4.heap.size, 1, none⟩) p2).trans g1; have g2' := (hb6.cell (p := ⟨w4.heap.size, 2, none⟩) p2).trans g2; have g3' := (hb6.cell (p := ⟨w4.heap.size, 3, none⟩) p2).trans g3; have g4' := (hb6.cell (p := ⟨w4.heap.size, 4, none⟩) p2).trans g4; have b6 := b5.trans (hb6.mono (show w.heap.size ≤ w5.heap.size by omega)); have z6 : w5.heap.size ≤ w6.heap.size := hb6.size; have j6 := j2.below (hb6.mono (show w4.heap.size ≤ w5.heap.size by omega)); have s6 : w.heap.size < w6.heap.size := (by omega); have s6' : w4.heap.size < w6.heap.size := (by omega))
        | (go_at_call 67; refine (seq_all 2000000 d2 d3 w6.heap.size _ ?_ ?_ ?_ ?_).mono ?_; omega; exact j6.more (by omega); exact ho3.inn; exact Nat.le_refl _; rintro e w7 ⟨rfl, hb7⟩; have b7 := b6.trans (hb7.mono (by omega)); have f0'' := (hb7.cell (p := ⟨w.heap.size, 0, none⟩) s6).trans f0'; have f1'' := (hb7.cell (p := ⟨w.heap.size, 1, none⟩) s6).trans f1'; have f2'' := (hb7.cell (p := ⟨w.heap.size, 2, none⟩) s6).trans f2'; have f3'' := (hb7.cell (p := ⟨w.heap.size, 3, none⟩) s6).trans f3'; have f4'' := (hb7.cell (p := ⟨w.heap.size, 4, none⟩) s6).trans f4'; have g0'' := (hb7.cell (p := ⟨w4.heap.size, 0, none⟩) s6').trans g0'; have g1'' := (hb7.cell (p := ⟨w4.heap.size, 1, none⟩) s6').trans g1'; have g2'' := (hb7.cell (p := ⟨w4.heap.size, 2, none⟩) s6').trans g2'; have g3'' := (hb7.cell (p := ⟨w4.heap.size, 3, none⟩) s6').trans g3'; have g4'' := (hb7.cell (p := ⟨w4.heap.size, 4, none⟩) s6').trans g4'))
    have E : S.eqB d2 d3 = true := S.eqB_of_er (Q2.out.trans Q3.out.symm)
    rw [E]
    go_wp2_with fail
    go_ret
    exact ⟨rfl, b7⟩
  · go_enter Try.func15, Try.ntmps15
    go_wp2_with fail
    refine (ssz_any (a.size + 1) a w.heap.size _ 1048576 (by omega) (by omega) (by omega) (ha.alloc (Nat.le_refl _) _) (by simp)).mono ?_
    rintro e w1 ⟨rfl, hb1⟩
    rw [szR_no (by omega)]
    have b1 : Below w.heap.size w w1 := ((Below.refl _ _).alloc (Nat.le_refl _) _).trans (hb1.mono (by simp))
    clear hb1
    go_wp2_with fail
    go_ret
    exact ⟨rfl, b1⟩

set_option maxRecDepth 100000 in
set_option maxHeartbeats 1000000 in
theorem law_sident (a : S) (w : World) (ha : a.In w w.heap.size) : Calls Try.prog 22 #[a.val] w fun e w' => e = .returned (.bool true) ∧ Below w.heap.size w w' := by
  have x0 := S.Box.new w a 58
  unfold S.val
  by_cases hsz : (a.bulk : Int) ≤ 1048576
  · have hs : a.size ≤ 2000000 := by have := S.bulk_size a; omega
    have hbk : a.bulk ≤ 2000000 := by omega
    go_enter Try.func22, Try.ntmps22
    go_wp2_with fail
    refine (ssz_any 2000000 a w.heap.size _ 1048576 hs (by omega) (by omega) (ha.alloc (Nat.le_refl _) _) (by simp)).mono ?_
    rintro e w1 ⟨rfl, hb1⟩
    rw [szR_yes (by omega)]
    have n1 : ¬ (1048576 - (a.bulk : Int) < 0) := by omega
    simp only [World.size_alloc] at hb1
    have z1 := hb1.size
    simp only [World.size_alloc] at z1
    have x0 := S.Box.below (B := w.heap.size + 1) x0 hb1 (by omega)
    have b1 : Below w.heap.size w w1 := ((Below.refl _ _).alloc (Nat.le_refl _) _).trans (hb1.mono (by omega))
    have i1 := ha.below b1
    clear hb1
    obtain ⟨f0, f1, f2, f3, f4⟩ := x0
    go_wp2_with fail
    refine (sto_any 2000000 a w.heap.size _ hbk hs (by omega) i1 (by omega)).mono ?_
    rintro e w2 ⟨d1, rfl, he1, ho1, hb2⟩
    have Q1 := Lib.hid he1
    have s1 : d1.size ≤ 2000000 := by rw [S.size_of_er he1]; exact hs
    have z2 := hb2.size
    have x0 := S.Box.below (⟨f0, f1, f2, f3, f4⟩ : S.Box w1 w.heap.size a) hb2 (by omega)
    have b2 := b1.trans (hb2.mono (by omega))
    have i2 := ha.below b2
    clear hb2 he1 f0 f1 f2 f3 f4
    obtain ⟨f0, f1, f2, f3, f4⟩ := x0
    go_wp2_with fail
    refine (specIdent_any d1 w2.heap.size _ ho1.inn (Nat.le_refl _) s1).mono ?_
    rintro e w3 ⟨rfl, hb3⟩
    have z3 := hb3.size
    have x0 := S.Box.below (⟨f0, f1, f2, f3, f4⟩ : S.Box w2 w.heap.size a) hb3 (by omega)
    have b3 := b2.trans (hb3.mono (by omega))
    have i3 := ha.below b3
    clear hb3 f0 f1 f2 f3 f4
    rw [S.isI_of_er Q1.out]
    obtain ⟨f0, f1, f2, f3, f4⟩ := x0
    go_wp2_with fail
    refine (sto_any 2000000 a w.heap.size _ hbk hs (by omega) i3 (by omega)).mono ?_
    rintro e w4 ⟨d2, rfl, he2, ho2, hb4⟩
    have Q2 := Lib.hid he2
    have s2 : d2.size ≤ 2000000 := by rw [S.size_of_er he2]; exact hs
    have z4 := hb4.size
    have x0 := S.Box.below (⟨f0, f1, f2, f3, f4⟩ : S.Box w3 w.heap.size a) hb4 (by omega)
    have b4 := b3.trans (hb4.mono (by omega))
    have i4 := ha.below b4
    have y := S.Box.new w4 d2 63
    have n2 : w.heap.size < w4.heap.size := by omega
    clear hb4 he2 f0 f1 f2 f3 f4 i3
    obtain ⟨f0, f1, f2, f3, f4⟩ := x0
    simp only [S.val]
    go_wp2_with fail
    refine (implIdent_any d2 w4.heap.size _ (ho2.inn.alloc (Nat.le_refl _) _) (by simp)).mono ?_
    rintro e w5 ⟨rfl, hb5⟩
    rw [S.isI_of_er Q2.out]
    have hxx : (a.isI != a.isI) = false := by simp
    simp only [World.size_alloc] at hb5
    have z5 := hb5.size
    simp only [World.size_alloc] at z5
    have y := S.Box.below (B := w4.heap.size + 1) y hb5 (by omega)
    have q5 : Below w4.heap.size w4 w5 := ((Below.refl _ _).alloc (Nat.le_refl _) _).trans (hb5.mono (by omega))
    have x0 := S.Box.below (⟨f0, f1, f2, f3, f4⟩ : S.Box w4 w.heap.size a) q5 (by omega)
    have b5 := b4.trans (q5.mono (by omega))
    have i5 := ha.below b5
    have j2 := ho2.inn.below q5
    clear hb5 q5 ho2 f0 f1 f2 f3 f4
    obtain ⟨f0, f1, f2, f3, f4⟩ := x0
    obtain ⟨g0, g1, g2, g3, g4⟩ := y
    go_wp2_with fail
    go_region_held3 (fun w' => w'.cell? ⟨w.heap.size, 0, none⟩ = some (.int .i64 a.k) ∧ w'.cell? ⟨w.heap.size, 1, none⟩ = some (.int .i64 a.n) ∧ w'.cell? ⟨w.heap.size, 2, none⟩ = some (.string a.t) ∧ w'.cell? ⟨w.heap.size, 3, none⟩ = some (.slice a.sa a.s.length a.sc) ∧ w'.cell? ⟨w.heap.size, 4, none⟩ = some (.slice a.A a.l.length a.c) ∧
        w'.cell? ⟨w4.heap.size, 0, none⟩ = some (.int .i64 d2.k) ∧ w'.cell? ⟨w4.heap.size, 1, none⟩ = some (.int .i64 d2.n) ∧ w'.cell? ⟨w4.heap.size, 2, none⟩ = some (.string d2.t) ∧ w'.cell? ⟨w4.heap.size, 3, none⟩ = some (.slice d2.sa d2.s.length d2.sc) ∧ w'.cell? ⟨w4.heap.size, 4, none⟩ = some (.slice d2.A d2.l.length d2.c)) (go_keep)
      (first
        | (go_at_call 65; refine (sto_any 2000000 a w.heap.size _ hbk hs ?_ ?_ ?_).mono ?_; omega; exact i5.drew; (show w.heap.size ≤ w5.heap.size); omega; rintro e w6 ⟨d3, rfl, he3, ho3, hb6⟩; have Q3 := Lib.hid he3; clear he3; have hb6 := below_undrew hb6; have p1 : w.heap.size < w5.heap.size := (by omega); have p2 : w4.heap.size < w5.heap.size := (by omega); have f0' := (hb6.cell (p := ⟨w.heap.size, 0, none⟩) p1).trans f0; have f1' := (hb6.cell (p := ⟨w.heap.size, 1, none⟩) p1).trans f1; have f2' := (hb6.cell (p := ⟨w.heap.size, 2, none⟩) p1).trans f2; have f3' := (hb6.cell (p := ⟨w.heap.size, 3, none⟩) p1).trans f3; have f4' := (hb6.cell (p := ⟨w.heap.size, 4, none⟩) p1).trans f4; have g0' := (hb6.cell (p := ⟨w4.heap.size, 0, none⟩) p2).trans g0; have g1' := (hb6.cell (p := ⟨w4.heap.size, 1, none⟩) p2).trans g1; have g2' := (hb6.cell (p := ⟨w4.heap.size, 2, none⟩) p2).trans g2; have g3' := (hb6.cell (p := ⟨w4.heap.size, 3, none⟩) p2).trans g3; have g4' := (hb6.cell (p := ⟨w4.heap.size, 4, none⟩) p2).trans g4; have b6 := b5.trans (hb6.mono (show w.heap.size ≤ w5.heap.size by omega)); have z6 : w5.heap.size ≤ w6.heap.size := hb6.size; have j6 := j2.below (hb6.mono (show w4.heap.size ≤ w5.heap.size by omega)); have s6 : w.heap.size < w6.heap.size := (by omega); have s6' : w4.heap.size < w6.heap.size := (by omega))
        | (go_at_call 67; refine (seq_all 2000000 d2 d3 w6.heap.size _ ?_ ?_ ?_ ?_).mono ?_; omega; exact j6.more (by omega); exact ho3.inn; exact Nat.le_refl _; rintro e w7 ⟨rfl, hb7⟩; have b7 := b6.trans (hb7.mono (by omega)); have f0'' := (hb7.cell (p := ⟨w.heap.size, 0, none⟩) s6).trans f0'; have f1'' := (hb7.cell (p := ⟨w.heap.size, 1, none⟩) s6).trans f1'; have f2'' := (hb7.cell (p := ⟨w.heap.size, 2, none⟩) s6).trans f2'; have f3'' := (hb7.cell (p := ⟨w.heap.size, 3, none⟩) s6).trans f3'; have f4'' := (hb7.cell (p := ⟨w.heap.size, 4, none⟩) s6).trans f4'; have g0'' := (hb7.cell (p := ⟨w4.heap.size, 0, none⟩) s6').trans g0'; have g1'' := (hb7.cell (p := ⟨w4.heap.size, 1, none⟩) s6').trans g1'; have g2'' := (hb7.cell (p := ⟨w4.heap.size, 2, none⟩) s6').trans g2'; have g3'' := (hb7.cell (p := ⟨w4.heap.size, 3, none⟩) s6').trans g3'; have g4'' := (hb7.cell (p := ⟨w4.heap.size, 4, none⟩) s6').trans g4'))
    have E : S.eqB d2 d3 = true := S.eqB_of_er (Q2.out.trans Q3.out.symm)
    rw [E]
    go_wp2_with fail
    go_ret
    exact ⟨rfl, b7⟩
  · go_enter Try.func22, Try.ntmps22
    go_wp2_with fail
    refine (ssz_any (a.size + 1) a w.heap.size _ 1048576 (by omega) (by omega) (by omega) (ha.alloc (Nat.le_refl _) _) (by simp)).mono ?_
    rintro e w1 ⟨rfl, hb1⟩
    rw [szR_no (by omega)]
    have b1 : Below w.heap.size w w1 := ((Below.refl _ _).alloc (Nat.le_refl _) _).trans (hb1.mono (by simp))
    clear hb1
    go_wp2_with fail
    go_ret
    exact ⟨rfl, b1⟩
end Go.Proofs.Ytknplopghgchaaa
