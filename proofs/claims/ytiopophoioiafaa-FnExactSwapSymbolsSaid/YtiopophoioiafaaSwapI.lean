/-
  The program's SwapSymbols.
-/
import Derived.Test.YtiopophoioiafaaSwapS
import Derived.Test.YtiopophoioiafaaSBox
namespace Go.Proofs.Ytiopophoioiafaa
open Go.RowKit

set_option maxHeartbeats 1000000 in
theorem implSwapS_yes (sa sb : ByteArray) (ha : sa.size ≤ 9223372036854775807) (hb : sb.size ≤ 9223372036854775807) (d : D) (B : Nat) (w : World) (hin : d.In w B) (hB : B ≤ w.heap.size) (hs : d.size ≤ 2000000) (hI : d.isD = true) (hA : symB sa = true) (hS : symB sb = true) :
    Calls Try.prog 21 #[d.val, .string sa, .string sb] w (RetD (D.swE sa sb d) w) := by
  have hE : D.swE sa sb d = D.sw sa sb d.er := by unfold D.swE; rw [if_pos ⟨hI, hA, hS⟩]
  have HE := Lib.hid hE
  have HI := Lib.hid hI
  have HA := Lib.hid hA
  have HS := Lib.hid hS
  clear hE hI hA hS
  obtain ⟨W1, hW1⟩ : ∃ W1, W1 = w.alloc (.cells #[.int .i64 d.k, .int .i64 d.n, .string d.t, .slice d.A d.l.length d.c] 25) := ⟨_, rfl⟩
  obtain ⟨W2, hW2⟩ : ∃ W2, W2 = W1.alloc (.cells #[.int .i64 0, .int .i64 0, .string ⟨#[]⟩, .slice none 0 0] 25) := ⟨_, rfl⟩
  have z1 : W1.heap.size = w.heap.size + 1 := by rw [hW1]; simp
  have B1 : Below w.heap.size w W1 := by rw [hW1]; exact (Below.refl _ _).alloc (Nat.le_refl _) _
  have z2 : W2.heap.size = w.heap.size + 1 + 1 := by rw [hW2]; simp [z1]
  have B2 : Below W1.heap.size W1 W2 := by rw [hW2]; exact (Below.refl _ _).alloc (Nat.le_refl _) _
  have x0 : D.Box W1 w.heap.size d := by rw [hW1]; exact D.Box.new w d _
  have x0 := x0.below B2 (by omega)
  have r0 : D.Box W2 (w.heap.size + 1) (.mk 0 0 ⟨#[]⟩ none 0 []) := by rw [hW2, ← z1]; exact D.Box.new W1 (.mk 0 0 ⟨#[]⟩ none 0 []) _
  have rf : Free W2 (w.heap.size + 1) := by rw [hW2, ← z1]; exact Free.new _ _ _
  have bb : Below w.heap.size w W2 := B1.trans (B2.mono (by omega))
  have hi2 := hin.below (bb.mono hB)
  have x0q := x0
  obtain ⟨a0, a1, a2, a3⟩ := x0q
  unfold D.val
  go_enter Try.func21, Try.ntmps21
  go_wp2_with fail
  rw [← hW1, ← hW2]
  clear hW1 hW2 B1 B2 a0 a1 a2 a3
  refine (cp_any 2000000 d B _ hs (Nat.le_refl _) hi2 (by omega)).mono ?_
  rintro e w1 ⟨d1, rfl, hd1, ho, hb1⟩
  have e1 : d1.size ≤ 2000000 := by rw [← D.size_er, hd1, D.size_er]; exact hs
  have Q1 := Lib.hid hd1
  have zz1 := hb1.size
  have x0 := x0.below hb1 (by omega)
  have r0 := r0.below hb1 (by omega)
  have rf := rf.below hb1 (by omega)
  have bb := bb.trans (hb1.mono (by omega))
  clear hb1 hi2 hd1
  obtain ⟨W3, hW3⟩ : ∃ W3, W3 = w1.alloc (.cells #[.int .i64 d1.k, .int .i64 d1.n, .string d1.t, .slice d1.A d1.l.length d1.c] 25) := ⟨_, rfl⟩
  have B3 : Below w1.heap.size w1 W3 := by rw [hW3]; exact (Below.refl _ _).alloc (Nat.le_refl _) _
  have z3 : W3.heap.size = w1.heap.size + 1 := by rw [hW3]; simp
  have y0 : D.Box W3 w1.heap.size d1 := by rw [hW3]; exact D.Box.new w1 d1 _
  have yf : Free W3 w1.heap.size := by rw [hW3]; exact Free.new _ _ _
  have x0q := x0
  obtain ⟨a0, a1, a2, a3⟩ := x0q
  have z0 : w.heap.size < w1.heap.size := by omega
  simp only [D.val]
  go_wp2_with fail
  rw [← hW3]
  clear hW3 a0 a1 a2 a3
  have x0 := x0.below B3 (by omega)
  have r0 := r0.below B3 (by omega)
  have rf := rf.below B3 (by omega)
  have ho := ho.below B3
  have bb := bb.trans (B3.mono (by omega))
  clear B3
  refine (implIsD_any d B _ (hin.below (bb.mono hB)) (by omega)).mono ?_
  rintro e w4 ⟨rfl, hb4⟩
  rw [HI.out]
  have zz4 := hb4.size
  have x0 := x0.below hb4 (by omega)
  have r0 := r0.below hb4 (by omega)
  have y0 := y0.below hb4 (by omega)
  have rf := rf.below hb4 (by omega)
  have yf := yf.below hb4 (by omega)
  have ho := ho.below (hb4.mono (by omega))
  have bb := bb.trans (hb4.mono (by omega))
  clear hb4
  go_wp2_with fail
  refine (implSymbol_any _ _).mono ?_
  rintro e w5 ⟨rfl, hb5⟩
  rw [HA.out]
  have zz5 := hb5.size
  have x0 := x0.below hb5 (by omega)
  have r0 := r0.below hb5 (by omega)
  have y0 := y0.below hb5 (by omega)
  have rf := rf.below hb5 (by omega)
  have yf := yf.below hb5 (by omega)
  have ho := ho.below (hb5.mono (by omega))
  have bb := bb.trans (hb5.mono (by omega))
  clear hb5
  go_wp2_with fail
  refine (implSymbol_any _ _).mono ?_
  rintro e w6 ⟨rfl, hb6⟩
  rw [HS.out]
  have zz6 := hb6.size
  have x0 := x0.below hb6 (by omega)
  have r0 := r0.below hb6 (by omega)
  have y0 := y0.below hb6 (by omega)
  have rf := rf.below hb6 (by omega)
  have yf := yf.below hb6 (by omega)
  have ho := ho.below (hb6.mono (by omega))
  have bb := bb.trans (hb6.mono (by omega))
  clear hb6
  have y0q := y0
  obtain ⟨g0, g1, g2, g3⟩ := y0q
  go_wp2_with fail
  refine (swapIn_any sa sb ha hb 2000000 d1 w1.heap.size 0 W2.heap.size w1.heap.size _ e1 (Nat.le_refl _) ⟨g0, g1, g2, g3⟩ yf.fr (by omega) (fun hm => by have := ho.inn.blk_lt _ hm; omega) ho (by omega)).mono ?_
  rintro e w7 ⟨rfl, hp⟩
  have hbl : ∀ b ∈ w1.heap.size :: d1.blks, W2.heap.size ≤ b := fun b hb => by
    rcases List.mem_cons.1 hb with rfl | hb
    · omega
    · exact ho.lo_ b hb
  have zz7 := hp.chg.size
  have v0 := (hp.same 0 (by omega)).trans g0
  have v1 := (hp.same 1 (by omega)).trans g1
  have v2 := hp.text
  have v3 := (hp.same 3 (by omega)).trans g3
  have hown := hp.own
  have r0 := r0.chg hp.chg (by omega) (fun hm => by have := hbl _ hm; omega)
  have rf : Free w7 (w.heap.size + 1) := rf.keep (hp.chg.block _ (by omega) (fun hm => by have := hbl _ hm; omega))
  have bb : Below w.heap.size w w7 := bb.trans (hp.chg.below (fun k hk => by have := hbl _ hk; omega) (by omega))
  simp only [Nat.zero_add] at v2
  clear hp g0 g1 g2 g3 y0 yf ho
  obtain ⟨s0, s1, s2, s3⟩ := r0
  have h0 := rf.fr 0
  have h1 := rf.fr 1
  have h2 := rf.fr 2
  have h3 := rf.fr 3
  go_wp2_with fail
  refine bodyPost_ret (v := .agg #[.int .i64 d1.k, .int .i64 d1.n, .string (D.swT sa sb d1.k d1.t), .slice d1.A d1.l.length d1.c]) (by simp [results, Try.results21, go_sem, s0, s1, s2, s3]) rfl ⟨D.sw sa sb d1, ?_, by rw [D.er_sw, Q1.out, HE.out], ?_, ?_⟩
  · obtain ⟨k, n, t, A, c, l⟩ := d1
    simp only [D.sw, D.val, D.k, D.n, D.t, D.A, D.c, D.l, D.swL_length]
  · have hown := hown.wide (lo' := w.heap.size + 1 + 1) (by omega) (show w1.heap.size ≤ w7.heap.size by omega)
    simp only [World.size_setCell]
    exact ((((hown.far (by simp <;> omega) _).far (by simp <;> omega) _).far (by simp <;> omega) _).far (by simp <;> omega) _).wide (by omega) (Nat.le_refl _)
  · exact (((bb.setCell (by simp <;> omega) _).setCell (by simp <;> omega) _).setCell (by simp <;> omega) _).setCell (by simp <;> omega) _

set_option maxHeartbeats 1000000 in
theorem implSwapS_nod (sa sb : ByteArray) (ha : sa.size ≤ 9223372036854775807) (hb : sb.size ≤ 9223372036854775807) (d : D) (B : Nat) (w : World) (hin : d.In w B) (hB : B ≤ w.heap.size) (hs : d.size ≤ 2000000) (hI : d.isD = false) :
    Calls Try.prog 21 #[d.val, .string sa, .string sb] w (RetD (D.swE sa sb d) w) := by
  have hE : D.swE sa sb d = d.er := by unfold D.swE; rw [if_neg (fun h => by have := h.1; rw [hI] at this; cases this)]
  have HE := Lib.hid hE
  have HI := Lib.hid hI
  clear hE hI
  obtain ⟨W1, hW1⟩ : ∃ W1, W1 = w.alloc (.cells #[.int .i64 d.k, .int .i64 d.n, .string d.t, .slice d.A d.l.length d.c] 25) := ⟨_, rfl⟩
  obtain ⟨W2, hW2⟩ : ∃ W2, W2 = W1.alloc (.cells #[.int .i64 0, .int .i64 0, .string ⟨#[]⟩, .slice none 0 0] 25) := ⟨_, rfl⟩
  have z1 : W1.heap.size = w.heap.size + 1 := by rw [hW1]; simp
  have B1 : Below w.heap.size w W1 := by rw [hW1]; exact (Below.refl _ _).alloc (Nat.le_refl _) _
  have z2 : W2.heap.size = w.heap.size + 1 + 1 := by rw [hW2]; simp [z1]
  have B2 : Below W1.heap.size W1 W2 := by rw [hW2]; exact (Below.refl _ _).alloc (Nat.le_refl _) _
  have x0 : D.Box W1 w.heap.size d := by rw [hW1]; exact D.Box.new w d _
  have x0 := x0.below B2 (by omega)
  have r0 : D.Box W2 (w.heap.size + 1) (.mk 0 0 ⟨#[]⟩ none 0 []) := by rw [hW2, ← z1]; exact D.Box.new W1 (.mk 0 0 ⟨#[]⟩ none 0 []) _
  have rf : Free W2 (w.heap.size + 1) := by rw [hW2, ← z1]; exact Free.new _ _ _
  have bb : Below w.heap.size w W2 := B1.trans (B2.mono (by omega))
  have hi2 := hin.below (bb.mono hB)
  have x0q := x0
  obtain ⟨a0, a1, a2, a3⟩ := x0q
  unfold D.val
  go_enter Try.func21, Try.ntmps21
  go_wp2_with fail
  rw [← hW1, ← hW2]
  clear hW1 hW2 B1 B2 a0 a1 a2 a3
  refine (cp_any 2000000 d B _ hs (Nat.le_refl _) hi2 (by omega)).mono ?_
  rintro e w1 ⟨d1, rfl, hd1, ho, hb1⟩
  have e1 : d1.size ≤ 2000000 := by rw [← D.size_er, hd1, D.size_er]; exact hs
  have Q1 := Lib.hid hd1
  have zz1 := hb1.size
  have x0 := x0.below hb1 (by omega)
  have r0 := r0.below hb1 (by omega)
  have rf := rf.below hb1 (by omega)
  have bb := bb.trans (hb1.mono (by omega))
  clear hb1 hi2 hd1
  obtain ⟨W3, hW3⟩ : ∃ W3, W3 = w1.alloc (.cells #[.int .i64 d1.k, .int .i64 d1.n, .string d1.t, .slice d1.A d1.l.length d1.c] 25) := ⟨_, rfl⟩
  have B3 : Below w1.heap.size w1 W3 := by rw [hW3]; exact (Below.refl _ _).alloc (Nat.le_refl _) _
  have z3 : W3.heap.size = w1.heap.size + 1 := by rw [hW3]; simp
  have y0 : D.Box W3 w1.heap.size d1 := by rw [hW3]; exact D.Box.new w1 d1 _
  have yf : Free W3 w1.heap.size := by rw [hW3]; exact Free.new _ _ _
  have x0q := x0
  obtain ⟨a0, a1, a2, a3⟩ := x0q
  have z0 : w.heap.size < w1.heap.size := by omega
  simp only [D.val]
  go_wp2_with fail
  rw [← hW3]
  clear hW3 a0 a1 a2 a3
  have x0 := x0.below B3 (by omega)
  have r0 := r0.below B3 (by omega)
  have rf := rf.below B3 (by omega)
  have ho := ho.below B3
  have bb := bb.trans (B3.mono (by omega))
  clear B3
  refine (implIsD_any d B _ (hin.below (bb.mono hB)) (by omega)).mono ?_
  rintro e w4 ⟨rfl, hb4⟩
  rw [HI.out]
  have zz4 := hb4.size
  have x0 := x0.below hb4 (by omega)
  have r0 := r0.below hb4 (by omega)
  have y0 := y0.below hb4 (by omega)
  have rf := rf.below hb4 (by omega)
  have yf := yf.below hb4 (by omega)
  have ho := ho.below (hb4.mono (by omega))
  have bb := bb.trans (hb4.mono (by omega))
  clear hb4
  have y0q := y0
  obtain ⟨g0, g1, g2, g3⟩ := y0q
  obtain ⟨s0, s1, s2, s3⟩ := r0
  have h0 := rf.fr 0
  have h1 := rf.fr 1
  have h2 := rf.fr 2
  have h3 := rf.fr 3
  go_wp2_with fail
  refine bodyPost_ret (v := .agg #[.int .i64 d1.k, .int .i64 d1.n, .string d1.t, .slice d1.A d1.l.length d1.c]) (by simp [results, Try.results21, go_sem, s0, s1, s2, s3]) rfl ⟨d1, rfl, by rw [Q1.out, HE.out], ?_, ?_⟩
  · have hown := ho.wide (lo' := w.heap.size + 1 + 1) (by omega) (show w1.heap.size ≤ w4.heap.size by omega)
    simp only [World.size_setCell]
    exact ((((hown.far (by simp <;> omega) _).far (by simp <;> omega) _).far (by simp <;> omega) _).far (by simp <;> omega) _).wide (by omega) (Nat.le_refl _)
  · exact (((bb.setCell (by simp <;> omega) _).setCell (by simp <;> omega) _).setCell (by simp <;> omega) _).setCell (by simp <;> omega) _

set_option maxHeartbeats 1000000 in
theorem implSwapS_noa (sa sb : ByteArray) (ha : sa.size ≤ 9223372036854775807) (hb : sb.size ≤ 9223372036854775807) (d : D) (B : Nat) (w : World) (hin : d.In w B) (hB : B ≤ w.heap.size) (hs : d.size ≤ 2000000) (hI : d.isD = true) (hA : symB sa = false) :
    Calls Try.prog 21 #[d.val, .string sa, .string sb] w (RetD (D.swE sa sb d) w) := by
  have hE : D.swE sa sb d = d.er := by unfold D.swE; rw [if_neg (fun h => by have := h.2.1; rw [hA] at this; cases this)]
  have HE := Lib.hid hE
  have HI := Lib.hid hI
  have HA := Lib.hid hA
  clear hE hI hA
  obtain ⟨W1, hW1⟩ : ∃ W1, W1 = w.alloc (.cells #[.int .i64 d.k, .int .i64 d.n, .string d.t, .slice d.A d.l.length d.c] 25) := ⟨_, rfl⟩
  obtain ⟨W2, hW2⟩ : ∃ W2, W2 = W1.alloc (.cells #[.int .i64 0, .int .i64 0, .string ⟨#[]⟩, .slice none 0 0] 25) := ⟨_, rfl⟩
  have z1 : W1.heap.size = w.heap.size + 1 := by rw [hW1]; simp
  have B1 : Below w.heap.size w W1 := by rw [hW1]; exact (Below.refl _ _).alloc (Nat.le_refl _) _
  have z2 : W2.heap.size = w.heap.size + 1 + 1 := by rw [hW2]; simp [z1]
  have B2 : Below W1.heap.size W1 W2 := by rw [hW2]; exact (Below.refl _ _).alloc (Nat.le_refl _) _
  have x0 : D.Box W1 w.heap.size d := by rw [hW1]; exact D.Box.new w d _
  have x0 := x0.below B2 (by omega)
  have r0 : D.Box W2 (w.heap.size + 1) (.mk 0 0 ⟨#[]⟩ none 0 []) := by rw [hW2, ← z1]; exact D.Box.new W1 (.mk 0 0 ⟨#[]⟩ none 0 []) _
  have rf : Free W2 (w.heap.size + 1) := by rw [hW2, ← z1]; exact Free.new _ _ _
  have bb : Below w.heap.size w W2 := B1.trans (B2.mono (by omega))
  have hi2 := hin.below (bb.mono hB)
  have x0q := x0
  obtain ⟨a0, a1, a2, a3⟩ := x0q
  unfold D.val
  go_enter Try.func21, Try.ntmps21
  go_wp2_with fail
  rw [← hW1, ← hW2]
  clear hW1 hW2 B1 B2 a0 a1 a2 a3
  refine (cp_any 2000000 d B _ hs (Nat.le_refl _) hi2 (by omega)).mono ?_
  rintro e w1 ⟨d1, rfl, hd1, ho, hb1⟩
  have e1 : d1.size ≤ 2000000 := by rw [← D.size_er, hd1, D.size_er]; exact hs
  have Q1 := Lib.hid hd1
  have zz1 := hb1.size
  have x0 := x0.below hb1 (by omega)
  have r0 := r0.below hb1 (by omega)
  have rf := rf.below hb1 (by omega)
  have bb := bb.trans (hb1.mono (by omega))
  clear hb1 hi2 hd1
  obtain ⟨W3, hW3⟩ : ∃ W3, W3 = w1.alloc (.cells #[.int .i64 d1.k, .int .i64 d1.n, .string d1.t, .slice d1.A d1.l.length d1.c] 25) := ⟨_, rfl⟩
  have B3 : Below w1.heap.size w1 W3 := by rw [hW3]; exact (Below.refl _ _).alloc (Nat.le_refl _) _
  have z3 : W3.heap.size = w1.heap.size + 1 := by rw [hW3]; simp
  have y0 : D.Box W3 w1.heap.size d1 := by rw [hW3]; exact D.Box.new w1 d1 _
  have yf : Free W3 w1.heap.size := by rw [hW3]; exact Free.new _ _ _
  have x0q := x0
  obtain ⟨a0, a1, a2, a3⟩ := x0q
  have z0 : w.heap.size < w1.heap.size := by omega
  simp only [D.val]
  go_wp2_with fail
  rw [← hW3]
  clear hW3 a0 a1 a2 a3
  have x0 := x0.below B3 (by omega)
  have r0 := r0.below B3 (by omega)
  have rf := rf.below B3 (by omega)
  have ho := ho.below B3
  have bb := bb.trans (B3.mono (by omega))
  clear B3
  refine (implIsD_any d B _ (hin.below (bb.mono hB)) (by omega)).mono ?_
  rintro e w4 ⟨rfl, hb4⟩
  rw [HI.out]
  have zz4 := hb4.size
  have x0 := x0.below hb4 (by omega)
  have r0 := r0.below hb4 (by omega)
  have y0 := y0.below hb4 (by omega)
  have rf := rf.below hb4 (by omega)
  have yf := yf.below hb4 (by omega)
  have ho := ho.below (hb4.mono (by omega))
  have bb := bb.trans (hb4.mono (by omega))
  clear hb4
  go_wp2_with fail
  refine (implSymbol_any _ _).mono ?_
  rintro e w5 ⟨rfl, hb5⟩
  rw [HA.out]
  have zz5 := hb5.size
  have x0 := x0.below hb5 (by omega)
  have r0 := r0.below hb5 (by omega)
  have y0 := y0.below hb5 (by omega)
  have rf := rf.below hb5 (by omega)
  have yf := yf.below hb5 (by omega)
  have ho := ho.below (hb5.mono (by omega))
  have bb := bb.trans (hb5.mono (by omega))
  clear hb5
  have y0q := y0
  obtain ⟨g0, g1, g2, g3⟩ := y0q
  obtain ⟨s0, s1, s2, s3⟩ := r0
  have h0 := rf.fr 0
  have h1 := rf.fr 1
  have h2 := rf.fr 2
  have h3 := rf.fr 3
  go_wp2_with fail
  refine bodyPost_ret (v := .agg #[.int .i64 d1.k, .int .i64 d1.n, .string d1.t, .slice d1.A d1.l.length d1.c]) (by simp [results, Try.results21, go_sem, s0, s1, s2, s3]) rfl ⟨d1, rfl, by rw [Q1.out, HE.out], ?_, ?_⟩
  · have hown := ho.wide (lo' := w.heap.size + 1 + 1) (by omega) (show w1.heap.size ≤ w5.heap.size by omega)
    simp only [World.size_setCell]
    exact ((((hown.far (by simp <;> omega) _).far (by simp <;> omega) _).far (by simp <;> omega) _).far (by simp <;> omega) _).wide (by omega) (Nat.le_refl _)
  · exact (((bb.setCell (by simp <;> omega) _).setCell (by simp <;> omega) _).setCell (by simp <;> omega) _).setCell (by simp <;> omega) _

set_option maxHeartbeats 1000000 in
theorem implSwapS_nob (sa sb : ByteArray) (ha : sa.size ≤ 9223372036854775807) (hb : sb.size ≤ 9223372036854775807) (d : D) (B : Nat) (w : World) (hin : d.In w B) (hB : B ≤ w.heap.size) (hs : d.size ≤ 2000000) (hI : d.isD = true) (hA : symB sa = true) (hS : symB sb = false) :
    Calls Try.prog 21 #[d.val, .string sa, .string sb] w (RetD (D.swE sa sb d) w) := by
  have hE : D.swE sa sb d = d.er := by unfold D.swE; rw [if_neg (fun h => by have := h.2.2; rw [hS] at this; cases this)]
  have HE := Lib.hid hE
  have HI := Lib.hid hI
  have HA := Lib.hid hA
  have HS := Lib.hid hS
  clear hE hI hA hS
  obtain ⟨W1, hW1⟩ : ∃ W1, W1 = w.alloc (.cells #[.int .i64 d.k, .int .i64 d.n, .string d.t, .slice d.A d.l.length d.c] 25) := ⟨_, rfl⟩
  obtain ⟨W2, hW2⟩ : ∃ W2, W2 = W1.alloc (.cells #[.int .i64 0, .int .i64 0, .string ⟨#[]⟩, .slice none 0 0] 25) := ⟨_, rfl⟩
  have z1 : W1.heap.size = w.heap.size + 1 := by rw [hW1]; simp
  have B1 : Below w.heap.size w W1 := by rw [hW1]; exact (Below.refl _ _).alloc (Nat.le_refl _) _
  have z2 : W2.heap.size = w.heap.size + 1 + 1 := by rw [hW2]; simp [z1]
  have B2 : Below W1.heap.size W1 W2 := by rw [hW2]; exact (Below.refl _ _).alloc (Nat.le_refl _) _
  have x0 : D.Box W1 w.heap.size d := by rw [hW1]; exact D.Box.new w d _
  have x0 := x0.below B2 (by omega)
  have r0 : D.Box W2 (w.heap.size + 1) (.mk 0 0 ⟨#[]⟩ none 0 []) := by rw [hW2, ← z1]; exact D.Box.new W1 (.mk 0 0 ⟨#[]⟩ none 0 []) _
  have rf : Free W2 (w.heap.size + 1) := by rw [hW2, ← z1]; exact Free.new _ _ _
  have bb : Below w.heap.size w W2 := B1.trans (B2.mono (by omega))
  have hi2 := hin.below (bb.mono hB)
  have x0q := x0
  obtain ⟨a0, a1, a2, a3⟩ := x0q
  unfold D.val
  go_enter Try.func21, Try.ntmps21
  go_wp2_with fail
  rw [← hW1, ← hW2]
  clear hW1 hW2 B1 B2 a0 a1 a2 a3
  refine (cp_any 2000000 d B _ hs (Nat.le_refl _) hi2 (by omega)).mono ?_
  rintro e w1 ⟨d1, rfl, hd1, ho, hb1⟩
  have e1 : d1.size ≤ 2000000 := by rw [← D.size_er, hd1, D.size_er]; exact hs
  have Q1 := Lib.hid hd1
  have zz1 := hb1.size
  have x0 := x0.below hb1 (by omega)
  have r0 := r0.below hb1 (by omega)
  have rf := rf.below hb1 (by omega)
  have bb := bb.trans (hb1.mono (by omega))
  clear hb1 hi2 hd1
  obtain ⟨W3, hW3⟩ : ∃ W3, W3 = w1.alloc (.cells #[.int .i64 d1.k, .int .i64 d1.n, .string d1.t, .slice d1.A d1.l.length d1.c] 25) := ⟨_, rfl⟩
  have B3 : Below w1.heap.size w1 W3 := by rw [hW3]; exact (Below.refl _ _).alloc (Nat.le_refl _) _
  have z3 : W3.heap.size = w1.heap.size + 1 := by rw [hW3]; simp
  have y0 : D.Box W3 w1.heap.size d1 := by rw [hW3]; exact D.Box.new w1 d1 _
  have yf : Free W3 w1.heap.size := by rw [hW3]; exact Free.new _ _ _
  have x0q := x0
  obtain ⟨a0, a1, a2, a3⟩ := x0q
  have z0 : w.heap.size < w1.heap.size := by omega
  simp only [D.val]
  go_wp2_with fail
  rw [← hW3]
  clear hW3 a0 a1 a2 a3
  have x0 := x0.below B3 (by omega)
  have r0 := r0.below B3 (by omega)
  have rf := rf.below B3 (by omega)
  have ho := ho.below B3
  have bb := bb.trans (B3.mono (by omega))
  clear B3
  refine (implIsD_any d B _ (hin.below (bb.mono hB)) (by omega)).mono ?_
  rintro e w4 ⟨rfl, hb4⟩
  rw [HI.out]
  have zz4 := hb4.size
  have x0 := x0.below hb4 (by omega)
  have r0 := r0.below hb4 (by omega)
  have y0 := y0.below hb4 (by omega)
  have rf := rf.below hb4 (by omega)
  have yf := yf.below hb4 (by omega)
  have ho := ho.below (hb4.mono (by omega))
  have bb := bb.trans (hb4.mono (by omega))
  clear hb4
  go_wp2_with fail
  refine (implSymbol_any _ _).mono ?_
  rintro e w5 ⟨rfl, hb5⟩
  rw [HA.out]
  have zz5 := hb5.size
  have x0 := x0.below hb5 (by omega)
  have r0 := r0.below hb5 (by omega)
  have y0 := y0.below hb5 (by omega)
  have rf := rf.below hb5 (by omega)
  have yf := yf.below hb5 (by omega)
  have ho := ho.below (hb5.mono (by omega))
  have bb := bb.trans (hb5.mono (by omega))
  clear hb5
  go_wp2_with fail
  refine (implSymbol_any _ _).mono ?_
  rintro e w6 ⟨rfl, hb6⟩
  rw [HS.out]
  have zz6 := hb6.size
  have x0 := x0.below hb6 (by omega)
  have r0 := r0.below hb6 (by omega)
  have y0 := y0.below hb6 (by omega)
  have rf := rf.below hb6 (by omega)
  have yf := yf.below hb6 (by omega)
  have ho := ho.below (hb6.mono (by omega))
  have bb := bb.trans (hb6.mono (by omega))
  clear hb6
  have y0q := y0
  obtain ⟨g0, g1, g2, g3⟩ := y0q
  obtain ⟨s0, s1, s2, s3⟩ := r0
  have h0 := rf.fr 0
  have h1 := rf.fr 1
  have h2 := rf.fr 2
  have h3 := rf.fr 3
  go_wp2_with fail
  refine bodyPost_ret (v := .agg #[.int .i64 d1.k, .int .i64 d1.n, .string d1.t, .slice d1.A d1.l.length d1.c]) (by simp [results, Try.results21, go_sem, s0, s1, s2, s3]) rfl ⟨d1, rfl, by rw [Q1.out, HE.out], ?_, ?_⟩
  · have hown := ho.wide (lo' := w.heap.size + 1 + 1) (by omega) (show w1.heap.size ≤ w6.heap.size by omega)
    simp only [World.size_setCell]
    exact ((((hown.far (by simp <;> omega) _).far (by simp <;> omega) _).far (by simp <;> omega) _).far (by simp <;> omega) _).wide (by omega) (Nat.le_refl _)
  · exact (((bb.setCell (by simp <;> omega) _).setCell (by simp <;> omega) _).setCell (by simp <;> omega) _).setCell (by simp <;> omega) _

theorem implSwapS_any (sa sb : ByteArray) (ha : sa.size ≤ 9223372036854775807) (hb : sb.size ≤ 9223372036854775807) (d : D) (B : Nat) (w : World) (hin : d.In w B) (hB : B ≤ w.heap.size) (hs : d.size ≤ 2000000) :
    Calls Try.prog 21 #[d.val, .string sa, .string sb] w (RetD (D.swE sa sb d) w) := by
  cases hI : d.isD
  · exact implSwapS_nod sa sb ha hb d B w hin hB hs hI
  · cases hA : symB sa
    · exact implSwapS_noa sa sb ha hb d B w hin hB hs hI hA
    · cases hS : symB sb
      · exact implSwapS_nob sa sb ha hb d B w hin hB hs hI hA hS
      · exact implSwapS_yes sa sb ha hb d B w hin hB hs hI hA hS
end Go.Proofs.Ytiopophoioiafaa
