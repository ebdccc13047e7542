/-
  Booleans as data.
-/
import Derived.Test.YtkmimpfpmkpdoaaWrap
namespace Go.Proofs.Ytkmimpfpmkpdoaa
open Go.RowKit

def boolD (b : Bool) : D := .mk 3 (if b then 1 else 0) ⟨#[]⟩ none 0 []

theorem specBool_any (b : Bool) (w : World) : Calls Try.prog 33 #[.bool b] w (RetD (boolD b) w) := by
  cases b
  · go_enter Try.func33, Try.ntmps33
    go_wp2_with fail
    refine bodyPost_ret (v := .agg #[.int .i64 3, .int .i64 0, .string ⟨#[]⟩, .slice none 0 0]) (by simp [results, Try.results33, go_sem]) rfl ⟨.mk 3 0 ⟨#[]⟩ none 0 [], rfl, rfl, D.Own.no_items (Nat.zero_le _) (Nat.zero_le _), (Below.refl _ _).alloc (Nat.le_refl _) _⟩
  · go_enter Try.func33, Try.ntmps33
    go_wp2_with fail
    refine bodyPost_ret (v := .agg #[.int .i64 3, .int .i64 1, .string ⟨#[]⟩, .slice none 0 0]) (by simp [results, Try.results33, go_sem]) rfl ⟨.mk 3 1 ⟨#[]⟩ none 0 [], rfl, rfl, D.Own.no_items (Nat.zero_le _) (Nat.zero_le _), (Below.refl _ _).alloc (Nat.le_refl _) _⟩
theorem implBool_any (b : Bool) (w : World) : Calls Try.prog 34 #[.bool b] w (RetD (boolD b) w) := by
  cases b
  · go_enter Try.func34, Try.ntmps34
    go_wp2_with fail
    refine bodyPost_ret (v := .agg #[.int .i64 3, .int .i64 0, .string ⟨#[]⟩, .slice none 0 0]) (by simp [results, Try.results34, go_sem]) rfl ⟨.mk 3 0 ⟨#[]⟩ none 0 [], rfl, rfl, D.Own.no_items (Nat.zero_le _) (Nat.zero_le _), (Below.refl _ _).alloc (Nat.le_refl _) _⟩
  · go_enter Try.func34, Try.ntmps34
    go_wp2_with fail
    refine bodyPost_ret (v := .agg #[.int .i64 3, .int .i64 1, .string ⟨#[]⟩, .slice none 0 0]) (by simp [results, Try.results34, go_sem]) rfl ⟨.mk 3 1 ⟨#[]⟩ none 0 [], rfl, rfl, D.Own.no_items (Nat.zero_le _) (Nat.zero_le _), (Below.refl _ _).alloc (Nat.le_refl _) _⟩

set_option maxHeartbeats 1000000 in
theorem law_bool (b : Bool) (w : World) : Calls Try.prog 7 #[.bool b] w fun e w' => e = .returned (.bool true) ∧ Below w.heap.size w w' := by
  go_enter Try.func7, Try.ntmps7
  go_wp2_with fail
  refine (specBool_any b _).mono ?_
  rintro e w1 ⟨d1, rfl, he1, ho1, hb1⟩
  have z1 := hb1.size
  have Q1 := Lib.hid he1
  have x1 := D.Box.new w1 d1 25
  clear he1
  simp only [D.val]
  go_wp2_with fail
  refine (implBool_any b _).mono ?_
  rintro e w2 ⟨d2, rfl, he2, ho2, hb2⟩
  have z2 := hb2.size
  simp only [World.size_alloc] at z2 ho2 hb2
  have z2' : w1.heap.size < w2.heap.size := by omega
  have Q2 := Lib.hid he2
  have x1 := x1.below hb2 (by simp)
  have x2 := D.Box.new w2 d2 25
  obtain ⟨a0, a1, a2, a3⟩ := x1
  clear he2
  simp only [D.val]
  go_wp2_with fail
  have E21 : Hid (D.eqB d2 d1 = true) := D.eqB_of_er (Q2.out.trans Q1.out.symm)
  have s2 : d2.size ≤ 2000000 := by rw [← D.size_er, Q2.out]; cases b <;> decide
  have j1 : d1.In w2 w1.heap.size := (ho1.inn.alloc (Nat.le_refl _) _).below (hb2.mono (by omega))
  refine (eq_all 2000000 d2 d1 w2.heap.size _ (by omega) (ho2.inn.alloc (Nat.le_refl _) _) ((j1.more (by omega)).alloc (Nat.le_refl _) _) (by simp)).mono ?_
  rintro e w3 ⟨rfl, hb3⟩
  rw [E21.out]
  simp only [World.size_alloc] at hb3
  have z3 := hb3.size
  simp only [World.size_alloc] at z3
  have q3 : Below w2.heap.size w2 w3 := ((Below.refl _ _).alloc (Nat.le_refl _) _).trans (hb3.mono (by omega))
  have y2 := D.Box.below (B := w2.heap.size + 1) x2 hb3 (by omega)
  have y1 := D.Box.below (⟨a0, a1, a2, a3⟩ : D.Box w2 w1.heap.size d1) q3 z2'
  have o3 := ho2.below q3
  have j1 := j1.below (q3.mono (by omega))
  have b3 : Below w.heap.size w w3 := ((hb1.alloc z1 _).trans (hb2.mono (by omega))).trans (q3.mono (by omega))
  clear x2 hb3 hb2 q3 ho1 ho2 x1 hb1
  obtain ⟨a0, a1, a2, a3⟩ := y1
  obtain ⟨g0, g1, g2, g3⟩ := y2
  go_wp2_with fail
  refine (markD_any d2 (w1.heap.size + 1) w2.heap.size _ 1 s2 (by omega) (by omega) o3 (by omega)).mono ?_
  rintro e w4 ⟨rfl, o4, hb4⟩
  have z4 := hb4.size
  have y1 := D.Box.chg (⟨a0, a1, a2, a3⟩ : D.Box w3 w1.heap.size d1) hb4 (by omega) (fun hm => by have := o3.lo_ _ hm; omega)
  have y2 := D.Box.chg (⟨g0, g1, g2, g3⟩ : D.Box w3 w2.heap.size d2) hb4 (by omega) (fun hm => by have := o3.inn.blk_lt _ hm; omega)
  have j1 := j1.below (hb4.below (B := w1.heap.size) (fun k hk => by have := o3.lo_ _ hk; omega) (by omega))
  have b4 : Below w.heap.size w w4 := b3.trans (hb4.below (fun k hk => by have := o3.lo_ _ hk; omega) (by omega))
  clear hb4 o3 b3 a0 a1 a2 a3 g0 g1 g2 g3
  obtain ⟨a0, a1, a2, a3⟩ := y1
  obtain ⟨g0, g1, g2, g3⟩ := y2
  go_wp2_with fail
  refine (heldD_any d2 (w1.heap.size + 1) w2.heap.size _ 1 s2 (by omega) (by omega) o4 (by omega)).mono ?_
  rintro e w5 ⟨rfl, hb5⟩
  have z5 := hb5.size
  have y1 := D.Box.below (⟨a0, a1, a2, a3⟩ : D.Box w4 w1.heap.size d1) hb5 (by omega)
  have y2 := D.Box.below (⟨g0, g1, g2, g3⟩ : D.Box w4 w2.heap.size d2) hb5 (by omega)
  have j1 := j1.below (hb5.mono (by omega))
  have o5 := o4.below (hb5.mono (by omega))
  have b5 : Below w.heap.size w w5 := b4.trans (hb5.mono (by omega))
  clear hb5 o4 b4 a0 a1 a2 a3 g0 g1 g2 g3
  obtain ⟨a0, a1, a2, a3⟩ := y1
  obtain ⟨g0, g1, g2, g3⟩ := y2
  have n1 : ¬ (1 + 3 * (D.sizeL d2.l : Int) < 0) := by omega
  go_wp2_with fail
  refine (implBool_any b _).mono ?_
  rintro e w6 ⟨d3, rfl, he3, ho3, hb6⟩
  have Q3 := Lib.hid he3
  have z6 := hb6.size
  have E31 : Hid (D.eqB d3 d1 = true) := D.eqB_of_er (Q3.out.trans Q1.out.symm)
  have s3 : d3.size ≤ 2000000 := by rw [← D.size_er, Q3.out]; cases b <;> decide
  have y1 := D.Box.below (⟨a0, a1, a2, a3⟩ : D.Box w5 w1.heap.size d1) hb6 (by omega)
  have y2 := D.Box.below (⟨g0, g1, g2, g3⟩ : D.Box w5 w2.heap.size d2) hb6 (by omega)
  have j1 := j1.below (hb6.mono (by omega))
  have o6 := o5.below (hb6.mono (by omega))
  have b6 : Below w.heap.size w w6 := b5.trans (hb6.mono (by omega))
  clear hb6 o5 b5 a0 a1 a2 a3 g0 g1 g2 g3 he3
  obtain ⟨a0, a1, a2, a3⟩ := y1
  obtain ⟨g0, g1, g2, g3⟩ := y2
  have n2 : w1.heap.size < w6.heap.size := by omega
  have n3 : w2.heap.size < w6.heap.size := by omega
  simp only [D.val]
  go_wp2_with fail
  refine (eq_all 2000000 d3 d1 w6.heap.size _ (by omega) (ho3.inn.alloc (Nat.le_refl _) _) ((j1.more (by omega)).alloc (Nat.le_refl _) _) (by simp)).mono ?_
  rintro e w7 ⟨rfl, hb7⟩
  rw [E31.out]
  simp only [World.size_alloc] at hb7
  have z7 := hb7.size
  simp only [World.size_alloc] at z7
  have q7 : Below w6.heap.size w6 w7 := ((Below.refl _ _).alloc (Nat.le_refl _) _).trans (hb7.mono (by omega))
  have y2 := D.Box.below (⟨g0, g1, g2, g3⟩ : D.Box w6 w2.heap.size d2) q7 (by omega)
  have o7 := o6.below (q7.mono (by omega))
  have b7 : Below w.heap.size w w7 := b6.trans (q7.mono (by omega))
  clear hb7 q7 o6 b6 a0 a1 a2 a3 g0 g1 g2 g3
  obtain ⟨g0, g1, g2, g3⟩ := y2
  go_wp2_with fail
  refine (heldD_any d2 (w1.heap.size + 1) w2.heap.size _ 1 s2 (by omega) (by omega) o7 (by omega)).mono ?_
  rintro e w8 ⟨rfl, hb8⟩
  have b8 : Below w.heap.size w w8 := b7.trans (hb8.mono (by omega))
  clear hb8 b7
  go_wp2_with fail
  go_ret
  exact ⟨rfl, b8⟩
end Go.Proofs.Ytkmimpfpmkpdoaa
