/-
  The law on ListDatum, walked.
-/
import Derived.Test.YtkmimpfpmkpdoaaApp
import Derived.Test.YtkmimpfpmkpdoaaWrap
namespace Go.Proofs.Ytkmimpfpmkpdoaa
open Go.RowKit

set_option maxRecDepth 100000 in
set_option maxHeartbeats 2000000 in
theorem law_list (A : Option Addr) (c : Nat) (l : List D) (w : World) (ha : (D.mk 0 0 ⟨#[]⟩ A c l).In w w.heap.size) : Calls Try.prog 9 #[.slice A l.length c] w fun e w' => e = .returned (.bool true) ∧ Below w.heap.size w w' := by
  by_cases hsz : (D.bulkL l : Int) ≤ 1048576
  · have hs : D.sizeL l ≤ 1048576 := by have := D.bulkL_size l; omega
    go_enter Try.func9, Try.ntmps9
    go_wp2_with fail
    refine (szL_any 2000000 0 0 ⟨#[]⟩ A c l w.heap.size _ 1048576 (by omega) (by omega) (by omega) ha (Nat.le_refl _)).mono ?_
    rintro e w1 ⟨rfl, b1⟩
    rw [szR_yes (by omega)]
    have n1 : ¬ (1048576 - (D.bulkL l : Int) < 0) := by omega
    have z1 := b1.size
    have i1 := ha.below b1
    go_wp2_with fail
    refine (toL_any 2000000 0 0 ⟨#[]⟩ A c l w.heap.size _ (by omega) (by omega) i1 (by omega)).mono ?_
    rintro e w2 ⟨k1, n1, t1, A1, c1, l1, rfl, he1, ho1, hb2⟩
    have s1 : D.sizeL l1 ≤ 1048576 := by rw [← D.sizeL_er, he1, D.sizeL_er]; exact hs
    have z2 := hb2.size
    have b2 := b1.trans (hb2.mono (by omega))
    have i2 := ha.below b2
    have in1 : (D.mk 0 0 ⟨#[]⟩ A1 c1 l1).In w2 w2.heap.size := by
      obtain ⟨h1, h2, h3⟩ := ho1.inn
      exact ⟨⟨h1.1, h1.2.1, Nat.zero_le _⟩, h2, h3⟩
    clear hb2 b1 i1 ho1
    go_wp2_with fail
    refine (specList_any A1 c1 l1 _ in1 (by omega)).mono ?_
    rintro e w3 ⟨d1, rfl, hd1, ho1, hb3⟩
    rw [he1] at hd1
    have Q1 := Lib.hid hd1
    have z3 := hb3.size
    have b3 := b2.trans (hb3.mono (by omega))
    have i3 := ha.below b3
    have x1 := D.Box.new w3 d1 25
    clear hb3 b2 i2 hd1 in1 he1 s1
    simp only [D.val]
    go_wp2_with fail
    refine (toL_any 2000000 0 0 ⟨#[]⟩ A c l w.heap.size _ (by omega) (by omega) (i3.alloc (by omega) _) (by simp; omega)).mono ?_
    rintro e w4 ⟨k2, n2, t2, A2, c2, l2, rfl, he2, ho2, hb4⟩
    have s2 : D.sizeL l2 ≤ 1048576 := by rw [← D.sizeL_er, he2, D.sizeL_er]; exact hs
    simp only [World.size_alloc] at ho2 hb4
    have z4 := hb4.size
    simp only [World.size_alloc] at z4
    have q4 : Below w3.heap.size w3 w4 := ((Below.refl _ _).alloc (Nat.le_refl _) _).trans (hb4.mono (by omega))
    have x1 := D.Box.below x1 hb4 (by omega)
    have ho1 := ho1.below q4
    have b4 := b3.trans (q4.mono (by omega))
    have i4 := ha.below b4
    have in2 : (D.mk 0 0 ⟨#[]⟩ A2 c2 l2).In w4 w4.heap.size := by
      obtain ⟨h1, h2, h3⟩ := ho2.inn
      exact ⟨⟨h1.1, h1.2.1, Nat.zero_le _⟩, h2, h3⟩
    clear q4 hb4 b3 i3
    obtain ⟨a0, a1, a2, a3⟩ := x1
    go_wp2_with fail
    refine (implList_any A2 c2 l2 _ in2 (by omega)).mono ?_
    rintro e w5 ⟨d2, rfl, hd2, ho3, hb5⟩
    rw [he2] at hd2
    have Q2 := Lib.hid hd2
    have H2 := Lib.hid he2
    have z5 := hb5.size
    have x1 := D.Box.below (⟨a0, a1, a2, a3⟩ : D.Box w4 w3.heap.size d1) hb5 (by omega)
    have x2 := D.Box.new w5 d2 25
    have ho1 := ho1.below (hb5.mono (by omega))
    have ho2 := ho2.below hb5
    have b5 := b4.trans (hb5.mono (by omega))
    have i5 := ha.below b5
    clear hb5 b4 i4 hd2 he2 in2 a0 a1 a2 a3
    obtain ⟨a0, a1, a2, a3⟩ := x1
    have n3 : w3.heap.size < w5.heap.size := by omega
    simp only [D.val]
    go_wp2_with fail
    have E21 : Hid (D.eqB d2 d1 = true) := D.eqB_of_er (Q2.out.trans Q1.out.symm)
    have e2 : d2.size ≤ 1048577 := by rw [← D.size_er, Q2.out]; simp only [D.size, D.sizeL_er]; omega
    have j1 : d1.In w5 w5.heap.size := ho1.inn.more (by omega)
    refine (eq_all 2000000 d2 d1 w5.heap.size _ (by omega) (ho3.inn.alloc (Nat.le_refl _) _) (j1.alloc (Nat.le_refl _) _) (by simp)).mono ?_
    rintro e w6 ⟨rfl, hb6⟩
    rw [E21.out]
    simp only [World.size_alloc] at hb6
    have z6 := hb6.size
    simp only [World.size_alloc] at z6
    have q6 : Below w5.heap.size w5 w6 := ((Below.refl _ _).alloc (Nat.le_refl _) _).trans (hb6.mono (by omega))
    have x1 := D.Box.below (⟨a0, a1, a2, a3⟩ : D.Box w5 w3.heap.size d1) q6 (by omega)
    have x2 := D.Box.below x2 hb6 (by omega)
    have ho1 := ho1.below (q6.mono (by omega))
    have ho2 := ho2.below (q6.mono (by omega))
    have ho3 := ho3.below q6
    have b6 := b5.trans (q6.mono (by omega))
    have i6 := ha.below b6
    clear q6 hb6 b5 i5 j1 n3 a0 a1 a2 a3
    obtain ⟨a0, a1, a2, a3⟩ := x1
    obtain ⟨g0, g1, g2, g3⟩ := x2
    go_wp2_with fail
    refine (toL_any 2000000 0 0 ⟨#[]⟩ A c l w.heap.size _ (by omega) (by omega) i6 (by omega)).mono ?_
    rintro e w7 ⟨k3, n3, t3, A3, c3, l3, rfl, he3, ho4, hb7⟩
    have z7 := hb7.size
    have x1 := D.Box.below (⟨a0, a1, a2, a3⟩ : D.Box w6 w3.heap.size d1) hb7 (by omega)
    have x2 := D.Box.below (⟨g0, g1, g2, g3⟩ : D.Box w6 w5.heap.size d2) hb7 (by omega)
    have ho1 := ho1.below (hb7.mono (by omega))
    have ho2 := ho2.below (hb7.mono (by omega))
    have ho3 := ho3.below (hb7.mono (by omega))
    have b7 := b6.trans (hb7.mono (by omega))
    have i7 := ha.below b7
    have E : D.eqL l2 l3 = true := by
      have h := D.eqB_of_er (d := .mk 0 0 ⟨#[]⟩ none 0 l2) (e := .mk 0 0 ⟨#[]⟩ none 0 l3) (by simp only [D.er]; rw [H2.out, he3])
      simpa [D.eqB] using h
    clear hb7 b6 i6 he3 a0 a1 a2 a3 g0 g1 g2 g3
    obtain ⟨a0, a1, a2, a3⟩ := x1
    obtain ⟨g0, g1, g2, g3⟩ := x2
    go_wp2_with fail
    refine (eqL_all 2000000 k2 n2 t2 A2 c2 l2 k3 n3 t3 A3 c3 l3 w7.heap.size _ (by omega) (ho2.inn.more (by omega)) ho4.inn (Nat.le_refl _)).mono ?_
    rintro e w8 ⟨rfl, hb8⟩
    rw [E]
    have z8 := hb8.size
    have x1 := D.Box.below (⟨a0, a1, a2, a3⟩ : D.Box w7 w3.heap.size d1) hb8 (by omega)
    have x2 := D.Box.below (⟨g0, g1, g2, g3⟩ : D.Box w7 w5.heap.size d2) hb8 (by omega)
    have ho1 := ho1.below (hb8.mono (by omega))
    have ho2 := ho2.below (hb8.mono (by omega))
    have ho3 := ho3.below (hb8.mono (by omega))
    have b8 := b7.trans (hb8.mono (by omega))
    have i8 := ha.below b8
    clear hb8 b7 i7 ho4 E a0 a1 a2 a3 g0 g1 g2 g3
    obtain ⟨a0, a1, a2, a3⟩ := x1
    obtain ⟨g0, g1, g2, g3⟩ := x2
    go_wp2_with fail
    refine (mark_any 2000000 (.mk k2 n2 t2 A2 c2 l2) (w3.heap.size + 1) w4.heap.size _ 1 (by simp only [D.l]; omega) (by omega) (by omega) (by simp only [D.l]; omega) ho2 (by omega)).mono ?_
    rintro e w9 ⟨rfl, _, hb9⟩
    have z9 := hb9.size
    have hlo : ∀ k ∈ D.blks (.mk k2 n2 t2 A2 c2 l2), w3.heap.size + 1 ≤ k ∧ k < w4.heap.size := fun k hk => ⟨ho2.lo_ _ hk, ho2.inn.blk_lt _ hk⟩
    have x1 := D.Box.chg (⟨a0, a1, a2, a3⟩ : D.Box w8 w3.heap.size d1) hb9 (by omega) (fun hm => by have := hlo _ hm; omega)
    have x2 := D.Box.chg (⟨g0, g1, g2, g3⟩ : D.Box w8 w5.heap.size d2) hb9 (by omega) (fun hm => by have := hlo _ hm; omega)
    have ho1 := ho1.below (hb9.below (B := w3.heap.size) (fun k hk => by have := hlo _ hk; omega) (by omega))
    have ho3 := ho3.keepB (w' := w9) (fun k hk => hb9.block k (by have := ho3.inn.blk_lt _ hk; omega) (fun hm => by have := hlo _ hm; have := ho3.lo_ _ hk; omega))
    have b9 : Below w.heap.size w w9 := b8.trans (hb9.below (fun k hk => by have := hlo _ hk; omega) (by omega))
    have i9 := ha.below b9
    clear hb9 b8 i8 ho2 a0 a1 a2 a3 g0 g1 g2 g3
    obtain ⟨a0, a1, a2, a3⟩ := x1
    obtain ⟨g0, g1, g2, g3⟩ := x2
    have el : (D.mk k2 n2 t2 A2 c2 l2).l = l2 := rfl
    simp only [el]
    have n4 : ¬ (1 + 3 * (D.sizeL l2 : Int) < 0) := by omega
    go_wp2_with fail
    have j1 : d1.In w9 w9.heap.size := ho1.inn.more (by omega)
    have j2 : d2.In w9 w9.heap.size := ho3.inn.more (by omega)
    refine (eq_all 2000000 d2 d1 w9.heap.size _ (by omega) j2 j1 (Nat.le_refl _)).mono ?_
    rintro e w10 ⟨rfl, hb10⟩
    rw [E21.out]
    have z10 := hb10.size
    have x1 := D.Box.below (⟨a0, a1, a2, a3⟩ : D.Box w9 w3.heap.size d1) hb10 (by omega)
    have x2 := D.Box.below (⟨g0, g1, g2, g3⟩ : D.Box w9 w5.heap.size d2) hb10 (by omega)
    have ho1 := ho1.below (hb10.mono (by omega))
    have ho3 := ho3.below (hb10.mono (by omega))
    have b10 := b9.trans (hb10.mono (by omega))
    have i10 := ha.below b10
    clear hb10 b9 i9 j1 j2 n4 a0 a1 a2 a3 g0 g1 g2 g3
    obtain ⟨a0, a1, a2, a3⟩ := x1
    obtain ⟨g0, g1, g2, g3⟩ := x2
    go_wp2_with fail
    refine (markD_any d2 w4.heap.size w5.heap.size _ 1 (by omega) (by omega) (by omega) ho3 (by omega)).mono ?_
    rintro e w11 ⟨rfl, o4, hb11⟩
    have z11 := hb11.size
    have hlo : ∀ k ∈ d2.blks, w4.heap.size ≤ k ∧ k < w5.heap.size := fun k hk => ⟨ho3.lo_ _ hk, ho3.inn.blk_lt _ hk⟩
    have x1 := D.Box.chg (⟨a0, a1, a2, a3⟩ : D.Box w10 w3.heap.size d1) hb11 (by omega) (fun hm => by have := hlo _ hm; omega)
    have x2 := D.Box.chg (⟨g0, g1, g2, g3⟩ : D.Box w10 w5.heap.size d2) hb11 (by omega) (fun hm => by have := hlo _ hm; omega)
    have ho1 := ho1.below (hb11.below (B := w3.heap.size) (fun k hk => by have := hlo _ hk; omega) (by omega))
    have b11 : Below w.heap.size w w11 := b10.trans (hb11.below (fun k hk => by have := hlo _ hk; omega) (by omega))
    have i11 := ha.below b11
    clear hb11 b10 i10 ho3 hlo a0 a1 a2 a3 g0 g1 g2 g3
    obtain ⟨a0, a1, a2, a3⟩ := x1
    obtain ⟨g0, g1, g2, g3⟩ := x2
    go_wp2_with fail
    refine (heldD_any d2 w4.heap.size w5.heap.size _ 1 (by omega) (by omega) (by omega) o4 (by omega)).mono ?_
    rintro e w12 ⟨rfl, hb12⟩
    have z12 := hb12.size
    have x1 := D.Box.below (⟨a0, a1, a2, a3⟩ : D.Box w11 w3.heap.size d1) hb12 (by omega)
    have x2 := D.Box.below (⟨g0, g1, g2, g3⟩ : D.Box w11 w5.heap.size d2) hb12 (by omega)
    have ho1 := ho1.below (hb12.mono (by omega))
    have o5 := o4.below (hb12.mono (by omega))
    have b12 := b11.trans (hb12.mono (by omega))
    have i12 := ha.below b12
    clear hb12 b11 i11 o4 a0 a1 a2 a3 g0 g1 g2 g3
    obtain ⟨a0, a1, a2, a3⟩ := x1
    obtain ⟨g0, g1, g2, g3⟩ := x2
    have n5 : ¬ (1 + 3 * (D.sizeL d2.l : Int) < 0) := by omega
    go_wp2_with fail
    refine (toL_any 2000000 0 0 ⟨#[]⟩ A c l w.heap.size _ (by omega) (by omega) i12 (by omega)).mono ?_
    rintro e w13 ⟨k4, n6, t4, A4, c4, l4, rfl, he4, ho4, hb13⟩
    have s4 : D.sizeL l4 ≤ 1048576 := by rw [← D.sizeL_er, he4, D.sizeL_er]; exact hs
    have z13 := hb13.size
    have x1 := D.Box.below (⟨a0, a1, a2, a3⟩ : D.Box w12 w3.heap.size d1) hb13 (by omega)
    have x2 := D.Box.below (⟨g0, g1, g2, g3⟩ : D.Box w12 w5.heap.size d2) hb13 (by omega)
    have ho1 := ho1.below (hb13.mono (by omega))
    have o5 := o5.below (hb13.mono (by omega))
    have b13 := b12.trans (hb13.mono (by omega))
    have in4 : (D.mk 0 0 ⟨#[]⟩ A4 c4 l4).In w13 w13.heap.size := by
      obtain ⟨h1, h2, h3⟩ := ho4.inn
      exact ⟨⟨h1.1, h1.2.1, Nat.zero_le _⟩, h2, h3⟩
    clear hb13 b12 i12 a0 a1 a2 a3 g0 g1 g2 g3
    obtain ⟨a0, a1, a2, a3⟩ := x1
    obtain ⟨g0, g1, g2, g3⟩ := x2
    go_wp2_with fail
    refine (implList_any A4 c4 l4 _ in4 (by omega)).mono ?_
    rintro e w14 ⟨d3, rfl, hd3, ho5, hb14⟩
    rw [he4] at hd3
    have Q3 := Lib.hid hd3
    have E31 : Hid (D.eqB d3 d1 = true) := D.eqB_of_er (Q3.out.trans Q1.out.symm)
    have e3 : d3.size ≤ 1048577 := by rw [← D.size_er, Q3.out]; simp only [D.size, D.sizeL_er]; omega
    have z14 := hb14.size
    have x1 := D.Box.below (⟨a0, a1, a2, a3⟩ : D.Box w13 w3.heap.size d1) hb14 (by omega)
    have x2 := D.Box.below (⟨g0, g1, g2, g3⟩ : D.Box w13 w5.heap.size d2) hb14 (by omega)
    have ho1 := ho1.below (hb14.mono (by omega))
    have o5 := o5.below (hb14.mono (by omega))
    have b14 := b13.trans (hb14.mono (by omega))
    have j1 : d1.In w14 w14.heap.size := ho1.inn.more (by omega)
    clear hb14 b13 in4 he4 hd3 ho4 s4 a0 a1 a2 a3 g0 g1 g2 g3
    obtain ⟨a0, a1, a2, a3⟩ := x1
    obtain ⟨g0, g1, g2, g3⟩ := x2
    have n7 : w3.heap.size < w14.heap.size := by omega
    have n8 : w5.heap.size < w14.heap.size := by omega
    simp only [D.val]
    go_wp2_with fail
    refine (eq_all 2000000 d3 d1 w14.heap.size _ (by omega) (ho5.inn.alloc (Nat.le_refl _) _) (j1.alloc (Nat.le_refl _) _) (by simp)).mono ?_
    rintro e w15 ⟨rfl, hb15⟩
    rw [E31.out]
    simp only [World.size_alloc] at hb15
    have z15 := hb15.size
    simp only [World.size_alloc] at z15
    have q15 : Below w14.heap.size w14 w15 := ((Below.refl _ _).alloc (Nat.le_refl _) _).trans (hb15.mono (by omega))
    have x2 := D.Box.below (⟨g0, g1, g2, g3⟩ : D.Box w14 w5.heap.size d2) q15 (by omega)
    have o5 := o5.below (q15.mono (by omega))
    have b15 := b14.trans (q15.mono (by omega))
    clear hb15 q15 b14 j1 ho1 ho5 a0 a1 a2 a3 g0 g1 g2 g3
    obtain ⟨g0, g1, g2, g3⟩ := x2
    go_wp2_with fail
    refine (heldD_any d2 w4.heap.size w5.heap.size _ 1 (by omega) (by omega) (by omega) o5 (by omega)).mono ?_
    rintro e w16 ⟨rfl, hb16⟩
    have b16 := b15.trans (hb16.mono (by omega))
    clear hb16 b15
    go_wp2_with fail
    go_ret
    exact ⟨rfl, b16⟩
  · go_enter Try.func9, Try.ntmps9
    go_wp2_with fail
    refine (szL_any (D.sizeL l) 0 0 ⟨#[]⟩ A c l w.heap.size _ 1048576 (Nat.le_refl _) (by omega) (by omega) ha (Nat.le_refl _)).mono ?_
    rintro e w1 ⟨rfl, b1⟩
    rw [szR_no (by omega)]
    go_wp2_with fail
    go_ret
    exact ⟨rfl, b1⟩
end Go.Proofs.Ytkmimpfpmkpdoaa
