/-
  NumberDatum, SymbolDatum, StringDatum and their laws, walked.
-/
import Derived.Test.YtkmimpfpmkpdoaaLeaf
namespace Go.Proofs.Ytkmimpfpmkpdoaa
open Go.RowKit

set_option maxHeartbeats 1000000 in
theorem implNumber_any (n : Int) (w : World) (ht : (⟨#[]⟩ : ByteArray).size ≤ 9223372036854775807) : Calls Try.prog 32 #[.int .i64 n] w (RetD (leafD 2 n (⟨#[]⟩ : ByteArray)) w) := by
  go_enter Try.func32, Try.ntmps32
  go_wp2_with fail
  refine (ifValid_any 2 n (⟨#[]⟩ : ByteArray) _ ht).mono ?_
  rintro e w1 ⟨d, rfl, hde, ho, hb1⟩
  have hz := hb1.size
  obtain ⟨hc, hf⟩ := bcell hb1
  simp only [World.size_alloc] at hz hc hf ho hb1
  have b1 : Below w.heap.size w w1 := ((Below.refl _ _).alloc (Nat.le_refl _) _).trans (hb1.mono (by omega))
  have Hde := Lib.hid hde
  clear hde hb1
  simp only [D.val]
  go_wp2_with fail
  refine bodyPost_ret (v := .agg #[.int .i64 d.k, .int .i64 d.n, .string d.t, .slice d.A d.l.length d.c]) (by simp [results, Try.results32, go_sem, hc, hz]) rfl ⟨d, rfl, Hde.out, ?_, ?_⟩
  · simp only [World.size_setCell]
    exact ((((ho.far (by simp) _).far (by simp) _).far (by simp) _).far (by simp) _).wide (by omega) (Nat.le_refl _)
  · exact (((b1.setCell (by simp) _).setCell (by simp) _).setCell (by simp) _).setCell (by simp) _

set_option maxHeartbeats 1000000 in
theorem implSymbolD_any (s : ByteArray) (w : World) (ht : s.size ≤ 9223372036854775807) : Calls Try.prog 27 #[.string s] w (RetD (leafD 1 0 s) w) := by
  go_enter Try.func27, Try.ntmps27
  go_wp2_with fail
  refine (ifValid_any 1 0 s _ ht).mono ?_
  rintro e w1 ⟨d, rfl, hde, ho, hb1⟩
  have hz := hb1.size
  obtain ⟨hc, hf⟩ := bcell hb1
  simp only [World.size_alloc] at hz hc hf ho hb1
  have b1 : Below w.heap.size w w1 := ((Below.refl _ _).alloc (Nat.le_refl _) _).trans (hb1.mono (by omega))
  have Hde := Lib.hid hde
  clear hde hb1
  simp only [D.val]
  go_wp2_with fail
  refine bodyPost_ret (v := .agg #[.int .i64 d.k, .int .i64 d.n, .string d.t, .slice d.A d.l.length d.c]) (by simp [results, Try.results27, go_sem, hc, hz]) rfl ⟨d, rfl, Hde.out, ?_, ?_⟩
  · simp only [World.size_setCell]
    exact ((((ho.far (by simp) _).far (by simp) _).far (by simp) _).far (by simp) _).wide (by omega) (Nat.le_refl _)
  · exact (((b1.setCell (by simp) _).setCell (by simp) _).setCell (by simp) _).setCell (by simp) _

set_option maxHeartbeats 1000000 in
theorem implStringD_any (s : ByteArray) (w : World) (ht : s.size ≤ 9223372036854775807) : Calls Try.prog 36 #[.string s] w (RetD (leafD 4 0 s) w) := by
  go_enter Try.func36, Try.ntmps36
  go_wp2_with fail
  refine (ifValid_any 4 0 s _ ht).mono ?_
  rintro e w1 ⟨d, rfl, hde, ho, hb1⟩
  have hz := hb1.size
  obtain ⟨hc, hf⟩ := bcell hb1
  simp only [World.size_alloc] at hz hc hf ho hb1
  have b1 : Below w.heap.size w w1 := ((Below.refl _ _).alloc (Nat.le_refl _) _).trans (hb1.mono (by omega))
  have Hde := Lib.hid hde
  clear hde hb1
  simp only [D.val]
  go_wp2_with fail
  refine bodyPost_ret (v := .agg #[.int .i64 d.k, .int .i64 d.n, .string d.t, .slice d.A d.l.length d.c]) (by simp [results, Try.results36, go_sem, hc, hz]) rfl ⟨d, rfl, Hde.out, ?_, ?_⟩
  · simp only [World.size_setCell]
    exact ((((ho.far (by simp) _).far (by simp) _).far (by simp) _).far (by simp) _).wide (by omega) (Nat.le_refl _)
  · exact (((b1.setCell (by simp) _).setCell (by simp) _).setCell (by simp) _).setCell (by simp) _

set_option maxHeartbeats 1000000 in
theorem specNumber_any (n : Int) (w : World) (ht : (⟨#[]⟩ : ByteArray).size ≤ 9223372036854775807) : Calls Try.prog 31 #[.int .i64 n] w (RetD (leafD 2 n (⟨#[]⟩ : ByteArray)) w) := by
  have hk : nodeOk 2 n (⟨#[]⟩ : ByteArray) 0 = decide (-999999999 ≤ n ∧ n ≤ 999999999) := by simp [nodeOk, ByteArray.toList_eq]
  cases hv : decide (-999999999 ≤ n ∧ n ≤ 999999999)
  · rw [hv] at hk
    have HL := Lib.hid (leaf_no hk)
    have Hv := Lib.hid hv
    clear hk hv
    go_enter Try.func31, Try.ntmps31
    go_wp2_with fail
    refine (l1In_any _ _ _ _).mono ?_
    rintro e w1 ⟨rfl, rfl⟩
    rw [Hv.out]
    go_wp2_with fail
    refine bodyPost_ret (v := zeroD.val) (by simp [results, Try.results31, go_sem, zeroD, D.val, D.k, D.n, D.t, D.A, D.l, D.c]) rfl ⟨zeroD, rfl, ?_, D.Own.no_items (Nat.zero_le _) (Nat.zero_le _), ?_⟩
    · rw [HL.out]; rfl
    · exact (Below.refl _ _).alloc (Nat.le_refl _) _
  · rw [hv] at hk
    have HL := Lib.hid (leaf_yes hk)
    have Hv := Lib.hid hv
    clear hk hv
    go_enter Try.func31, Try.ntmps31
    go_wp2_with fail
    refine (l1In_any _ _ _ _).mono ?_
    rintro e w1 ⟨rfl, rfl⟩
    rw [Hv.out]
    go_wp2_with fail
    refine bodyPost_ret (v := .agg #[.int .i64 2, .int .i64 n, .string (⟨#[]⟩ : ByteArray), .slice none 0 0]) (by simp [results, Try.results31, go_sem]) rfl ⟨.mk 2 n (⟨#[]⟩ : ByteArray) none 0 [], rfl, ?_, D.Own.no_items (Nat.zero_le _) ht, ?_⟩
    · rw [HL.out]; rfl
    · exact (Below.refl _ _).alloc (Nat.le_refl _) _

set_option maxHeartbeats 1000000 in
theorem specSymbolD_any (s : ByteArray) (w : World) (ht : s.size ≤ 9223372036854775807) : Calls Try.prog 26 #[.string s] w (RetD (leafD 1 0 s) w) := by
  have hk : nodeOk 1 0 s 0 = symB s := by simp [nodeOk]
  cases hv : symB s
  · rw [hv] at hk
    have HL := Lib.hid (leaf_no hk)
    have Hv := Lib.hid hv
    clear hk hv
    go_enter Try.func26, Try.ntmps26
    go_wp2_with fail
    refine (specSymbol_any _ _).mono ?_
    rintro e w1 ⟨rfl, rfl⟩
    rw [Hv.out]
    go_wp2_with fail
    refine bodyPost_ret (v := zeroD.val) (by simp [results, Try.results26, go_sem, zeroD, D.val, D.k, D.n, D.t, D.A, D.l, D.c]) rfl ⟨zeroD, rfl, ?_, D.Own.no_items (Nat.zero_le _) (Nat.zero_le _), ?_⟩
    · rw [HL.out]; rfl
    · exact (Below.refl _ _).alloc (Nat.le_refl _) _
  · rw [hv] at hk
    have HL := Lib.hid (leaf_yes hk)
    have Hv := Lib.hid hv
    clear hk hv
    go_enter Try.func26, Try.ntmps26
    go_wp2_with fail
    refine (specSymbol_any _ _).mono ?_
    rintro e w1 ⟨rfl, rfl⟩
    rw [Hv.out]
    go_wp2_with fail
    refine bodyPost_ret (v := .agg #[.int .i64 1, .int .i64 0, .string s, .slice none 0 0]) (by simp [results, Try.results26, go_sem]) rfl ⟨.mk 1 0 s none 0 [], rfl, ?_, D.Own.no_items (Nat.zero_le _) ht, ?_⟩
    · rw [HL.out]; rfl
    · exact (Below.refl _ _).alloc (Nat.le_refl _) _

set_option maxHeartbeats 1000000 in
theorem specStringD_any (s : ByteArray) (w : World) (ht : s.size ≤ 9223372036854775807) : Calls Try.prog 35 #[.string s] w (RetD (leafD 4 0 s) w) := by
  have hk : nodeOk 4 0 s 0 = txtB s := by simp [nodeOk]
  cases hv : txtB s
  · rw [hv] at hk
    have HL := Lib.hid (leaf_no hk)
    have Hv := Lib.hid hv
    clear hk hv
    go_enter Try.func35, Try.ntmps35
    go_wp2_with fail
    refine (specText_any _ _ ht).mono ?_
    rintro e w1 ⟨rfl, rfl⟩
    rw [Hv.out]
    go_wp2_with fail
    refine bodyPost_ret (v := zeroD.val) (by simp [results, Try.results35, go_sem, zeroD, D.val, D.k, D.n, D.t, D.A, D.l, D.c]) rfl ⟨zeroD, rfl, ?_, D.Own.no_items (Nat.zero_le _) (Nat.zero_le _), ?_⟩
    · rw [HL.out]; rfl
    · exact (Below.refl _ _).alloc (Nat.le_refl _) _
  · rw [hv] at hk
    have HL := Lib.hid (leaf_yes hk)
    have Hv := Lib.hid hv
    clear hk hv
    go_enter Try.func35, Try.ntmps35
    go_wp2_with fail
    refine (specText_any _ _ ht).mono ?_
    rintro e w1 ⟨rfl, rfl⟩
    rw [Hv.out]
    go_wp2_with fail
    refine bodyPost_ret (v := .agg #[.int .i64 4, .int .i64 0, .string s, .slice none 0 0]) (by simp [results, Try.results35, go_sem]) rfl ⟨.mk 4 0 s none 0 [], rfl, ?_, D.Own.no_items (Nat.zero_le _) ht, ?_⟩
    · rw [HL.out]; rfl
    · exact (Below.refl _ _).alloc (Nat.le_refl _) _

set_option maxRecDepth 100000 in
set_option maxHeartbeats 1000000 in
theorem law_number (n : Int) (w : World) : Calls Try.prog 6 #[.int .i64 n] w fun e w' => e = .returned (.bool true) ∧ Below w.heap.size w w' := by
  have hxs : (leafD 2 n (⟨#[]⟩ : ByteArray)).size ≤ 2000000 := leafD_size _ _ _
  go_enter Try.func6, Try.ntmps6
  go_wp2_with fail
  refine (specNumber_any n _ (Nat.zero_le _)).mono ?_
  rintro e w1 ⟨d1, rfl, he1, ho1, hb1⟩
  have z1 := hb1.size
  have Q1 := Lib.hid he1
  have x1 := D.Box.new w1 d1 25
  clear he1
  simp only [D.val]
  go_wp2_with fail
  refine (implNumber_any n _ (Nat.zero_le _)).mono ?_
  rintro e w2 ⟨d2, rfl, he2, ho2, hb2⟩
  have z2 := hb2.size
  simp only [World.size_alloc] at z2 ho2 hb2
  have z2' : w1.heap.size < w2.heap.size := by omega
  have Q2 := Lib.hid he2
  have x1 := x1.below hb2 (by simp)
  have x2 := D.Box.new w2 d2 25
  obtain ⟨a0, a1, a2, a3⟩ := x1
  clear he2
  simp only [D.val]
  go_wp2_with fail
  have E21 : Hid (D.eqB d2 d1 = true) := D.eqB_of_er (Q2.out.trans Q1.out.symm)
  have s2 : d2.size ≤ 2000000 := by rw [← D.size_er, Q2.out]; exact hxs
  have j1 : d1.In w2 w1.heap.size := (ho1.inn.alloc (Nat.le_refl _) _).below (hb2.mono (by omega))
  refine (eq_all 2000000 d2 d1 w2.heap.size _ (by omega) (ho2.inn.alloc (Nat.le_refl _) _) ((j1.more (by omega)).alloc (Nat.le_refl _) _) (by simp)).mono ?_
  rintro e w3 ⟨rfl, hb3⟩
  rw [E21.out]
  simp only [World.size_alloc] at hb3
  have z3 := hb3.size
  simp only [World.size_alloc] at z3
  have q3 : Below w2.heap.size w2 w3 := ((Below.refl _ _).alloc (Nat.le_refl _) _).trans (hb3.mono (by omega))
  have y2 := D.Box.below (B := w2.heap.size + 1) x2 hb3 (by omega)
  have y1 := D.Box.below (⟨a0, a1, a2, a3⟩ : D.Box w2 w1.heap.size d1) q3 z2'
  have o3 := ho2.below q3
  have j1 := j1.below (q3.mono (by omega))
  have b3 : Below w.heap.size w w3 := ((hb1.alloc z1 _).trans (hb2.mono (by omega))).trans (q3.mono (by omega))
  clear x2 hb3 hb2 q3 ho1 ho2 x1 hb1
  obtain ⟨a0, a1, a2, a3⟩ := y1
  obtain ⟨g0, g1, g2, g3⟩ := y2
  go_wp2_with fail
  refine (markD_any d2 (w1.heap.size + 1) w2.heap.size _ 1 s2 (by omega) (by omega) o3 (by omega)).mono ?_
  rintro e w4 ⟨rfl, o4, hb4⟩
  have z4 := hb4.size
  have y1 := D.Box.chg (⟨a0, a1, a2, a3⟩ : D.Box w3 w1.heap.size d1) hb4 (by omega) (fun hm => by have := o3.lo_ _ hm; omega)
  have y2 := D.Box.chg (⟨g0, g1, g2, g3⟩ : D.Box w3 w2.heap.size d2) hb4 (by omega) (fun hm => by have := o3.inn.blk_lt _ hm; omega)
  have j1 := j1.below (hb4.below (B := w1.heap.size) (fun k hk => by have := o3.lo_ _ hk; omega) (by omega))
  have b4 : Below w.heap.size w w4 := b3.trans (hb4.below (fun k hk => by have := o3.lo_ _ hk; omega) (by omega))
  clear hb4 o3 b3 a0 a1 a2 a3 g0 g1 g2 g3
  obtain ⟨a0, a1, a2, a3⟩ := y1
  obtain ⟨g0, g1, g2, g3⟩ := y2
  go_wp2_with fail
  refine (heldD_any d2 (w1.heap.size + 1) w2.heap.size _ 1 s2 (by omega) (by omega) o4 (by omega)).mono ?_
  rintro e w5 ⟨rfl, hb5⟩
  have z5 := hb5.size
  have y1 := D.Box.below (⟨a0, a1, a2, a3⟩ : D.Box w4 w1.heap.size d1) hb5 (by omega)
  have y2 := D.Box.below (⟨g0, g1, g2, g3⟩ : D.Box w4 w2.heap.size d2) hb5 (by omega)
  have j1 := j1.below (hb5.mono (by omega))
  have o5 := o4.below (hb5.mono (by omega))
  have b5 : Below w.heap.size w w5 := b4.trans (hb5.mono (by omega))
  clear hb5 o4 b4 a0 a1 a2 a3 g0 g1 g2 g3
  obtain ⟨a0, a1, a2, a3⟩ := y1
  obtain ⟨g0, g1, g2, g3⟩ := y2
  have n1 : ¬ (1 + 3 * (D.sizeL d2.l : Int) < 0) := by omega
  go_wp2_with fail
  refine (implNumber_any n _ (Nat.zero_le _)).mono ?_
  rintro e w6 ⟨d3, rfl, he3, ho3, hb6⟩
  have Q3 := Lib.hid he3
  have z6 := hb6.size
  have E31 : Hid (D.eqB d3 d1 = true) := D.eqB_of_er (Q3.out.trans Q1.out.symm)
  have s3 : d3.size ≤ 2000000 := by rw [← D.size_er, Q3.out]; exact hxs
  have y1 := D.Box.below (⟨a0, a1, a2, a3⟩ : D.Box w5 w1.heap.size d1) hb6 (by omega)
  have y2 := D.Box.below (⟨g0, g1, g2, g3⟩ : D.Box w5 w2.heap.size d2) hb6 (by omega)
  have j1 := j1.below (hb6.mono (by omega))
  have o6 := o5.below (hb6.mono (by omega))
  have b6 : Below w.heap.size w w6 := b5.trans (hb6.mono (by omega))
  clear hb6 o5 b5 a0 a1 a2 a3 g0 g1 g2 g3 he3
  obtain ⟨a0, a1, a2, a3⟩ := y1
  obtain ⟨g0, g1, g2, g3⟩ := y2
  have n2 : w1.heap.size < w6.heap.size := by omega
  have n3 : w2.heap.size < w6.heap.size := by omega
  simp only [D.val]
  go_wp2_with fail
  refine (eq_all 2000000 d3 d1 w6.heap.size _ (by omega) (ho3.inn.alloc (Nat.le_refl _) _) ((j1.more (by omega)).alloc (Nat.le_refl _) _) (by simp)).mono ?_
  rintro e w7 ⟨rfl, hb7⟩
  rw [E31.out]
  simp only [World.size_alloc] at hb7
  have z7 := hb7.size
  simp only [World.size_alloc] at z7
  have q7 : Below w6.heap.size w6 w7 := ((Below.refl _ _).alloc (Nat.le_refl _) _).trans (hb7.mono (by omega))
  have y2 := D.Box.below (⟨g0, g1, g2, g3⟩ : D.Box w6 w2.heap.size d2) q7 (by omega)
  have o7 := o6.below (q7.mono (by omega))
  have b7 : Below w.heap.size w w7 := b6.trans (q7.mono (by omega))
  clear hb7 q7 o6 b6 a0 a1 a2 a3 g0 g1 g2 g3
  obtain ⟨g0, g1, g2, g3⟩ := y2
  go_wp2_with fail
  refine (heldD_any d2 (w1.heap.size + 1) w2.heap.size _ 1 s2 (by omega) (by omega) o7 (by omega)).mono ?_
  rintro e w8 ⟨rfl, hb8⟩
  have b8 : Below w.heap.size w w8 := b7.trans (hb8.mono (by omega))
  clear hb8 b7
  go_wp2_with fail
  go_ret
  exact ⟨rfl, b8⟩

set_option maxRecDepth 100000 in
set_option maxHeartbeats 1000000 in
theorem law_symbolD (s : ByteArray) (hs : s.size ≤ 9223372036854775807) (w : World) : Calls Try.prog 5 #[.string s] w fun e w' => e = .returned (.bool true) ∧ Below w.heap.size w w' := by
  have hxs : (leafD 1 0 s).size ≤ 2000000 := leafD_size _ _ _
  by_cases hbig : (1048576 : Int) < (s.size : Int)
  · clear hxs
    go_enter Try.func5, Try.ntmps5
    go_wp2_with fail
    go_ret
    exact ⟨rfl, Below.refl _ _⟩
  · go_enter Try.func5, Try.ntmps5
    go_wp2_with fail
    refine (specSymbolD_any s _ hs).mono ?_
    rintro e w1 ⟨d1, rfl, he1, ho1, hb1⟩
    have z1 := hb1.size
    have Q1 := Lib.hid he1
    have x1 := D.Box.new w1 d1 25
    clear he1
    simp only [D.val]
    go_wp2_with fail
    refine (implSymbolD_any s _ hs).mono ?_
    rintro e w2 ⟨d2, rfl, he2, ho2, hb2⟩
    have z2 := hb2.size
    simp only [World.size_alloc] at z2 ho2 hb2
    have z2' : w1.heap.size < w2.heap.size := by omega
    have Q2 := Lib.hid he2
    have x1 := x1.below hb2 (by simp)
    have x2 := D.Box.new w2 d2 25
    obtain ⟨a0, a1, a2, a3⟩ := x1
    clear he2
    simp only [D.val]
    go_wp2_with fail
    have E21 : Hid (D.eqB d2 d1 = true) := D.eqB_of_er (Q2.out.trans Q1.out.symm)
    have s2 : d2.size ≤ 2000000 := by rw [← D.size_er, Q2.out]; exact hxs
    have j1 : d1.In w2 w1.heap.size := (ho1.inn.alloc (Nat.le_refl _) _).below (hb2.mono (by omega))
    refine (eq_all 2000000 d2 d1 w2.heap.size _ (by omega) (ho2.inn.alloc (Nat.le_refl _) _) ((j1.more (by omega)).alloc (Nat.le_refl _) _) (by simp)).mono ?_
    rintro e w3 ⟨rfl, hb3⟩
    rw [E21.out]
    simp only [World.size_alloc] at hb3
    have z3 := hb3.size
    simp only [World.size_alloc] at z3
    have q3 : Below w2.heap.size w2 w3 := ((Below.refl _ _).alloc (Nat.le_refl _) _).trans (hb3.mono (by omega))
    have y2 := D.Box.below (B := w2.heap.size + 1) x2 hb3 (by omega)
    have y1 := D.Box.below (⟨a0, a1, a2, a3⟩ : D.Box w2 w1.heap.size d1) q3 z2'
    have o3 := ho2.below q3
    have j1 := j1.below (q3.mono (by omega))
    have b3 : Below w.heap.size w w3 := ((hb1.alloc z1 _).trans (hb2.mono (by omega))).trans (q3.mono (by omega))
    clear x2 hb3 hb2 q3 ho1 ho2 x1 hb1
    obtain ⟨a0, a1, a2, a3⟩ := y1
    obtain ⟨g0, g1, g2, g3⟩ := y2
    go_wp2_with fail
    refine (markD_any d2 (w1.heap.size + 1) w2.heap.size _ 1 s2 (by omega) (by omega) o3 (by omega)).mono ?_
    rintro e w4 ⟨rfl, o4, hb4⟩
    have z4 := hb4.size
    have y1 := D.Box.chg (⟨a0, a1, a2, a3⟩ : D.Box w3 w1.heap.size d1) hb4 (by omega) (fun hm => by have := o3.lo_ _ hm; omega)
    have y2 := D.Box.chg (⟨g0, g1, g2, g3⟩ : D.Box w3 w2.heap.size d2) hb4 (by omega) (fun hm => by have := o3.inn.blk_lt _ hm; omega)
    have j1 := j1.below (hb4.below (B := w1.heap.size) (fun k hk => by have := o3.lo_ _ hk; omega) (by omega))
    have b4 : Below w.heap.size w w4 := b3.trans (hb4.below (fun k hk => by have := o3.lo_ _ hk; omega) (by omega))
    clear hb4 o3 b3 a0 a1 a2 a3 g0 g1 g2 g3
    obtain ⟨a0, a1, a2, a3⟩ := y1
    obtain ⟨g0, g1, g2, g3⟩ := y2
    go_wp2_with fail
    refine (heldD_any d2 (w1.heap.size + 1) w2.heap.size _ 1 s2 (by omega) (by omega) o4 (by omega)).mono ?_
    rintro e w5 ⟨rfl, hb5⟩
    have z5 := hb5.size
    have y1 := D.Box.below (⟨a0, a1, a2, a3⟩ : D.Box w4 w1.heap.size d1) hb5 (by omega)
    have y2 := D.Box.below (⟨g0, g1, g2, g3⟩ : D.Box w4 w2.heap.size d2) hb5 (by omega)
    have j1 := j1.below (hb5.mono (by omega))
    have o5 := o4.below (hb5.mono (by omega))
    have b5 : Below w.heap.size w w5 := b4.trans (hb5.mono (by omega))
    clear hb5 o4 b4 a0 a1 a2 a3 g0 g1 g2 g3
    obtain ⟨a0, a1, a2, a3⟩ := y1
    obtain ⟨g0, g1, g2, g3⟩ := y2
    have n1 : ¬ (1 + 3 * (D.sizeL d2.l : Int) < 0) := by omega
    go_wp2_with fail
    refine (implSymbolD_any s _ hs).mono ?_
    rintro e w6 ⟨d3, rfl, he3, ho3, hb6⟩
    have Q3 := Lib.hid he3
    have z6 := hb6.size
    have E31 : Hid (D.eqB d3 d1 = true) := D.eqB_of_er (Q3.out.trans Q1.out.symm)
    have s3 : d3.size ≤ 2000000 := by rw [← D.size_er, Q3.out]; exact hxs
    have y1 := D.Box.below (⟨a0, a1, a2, a3⟩ : D.Box w5 w1.heap.size d1) hb6 (by omega)
    have y2 := D.Box.below (⟨g0, g1, g2, g3⟩ : D.Box w5 w2.heap.size d2) hb6 (by omega)
    have j1 := j1.below (hb6.mono (by omega))
    have o6 := o5.below (hb6.mono (by omega))
    have b6 : Below w.heap.size w w6 := b5.trans (hb6.mono (by omega))
    clear hb6 o5 b5 a0 a1 a2 a3 g0 g1 g2 g3 he3
    obtain ⟨a0, a1, a2, a3⟩ := y1
    obtain ⟨g0, g1, g2, g3⟩ := y2
    have n2 : w1.heap.size < w6.heap.size := by omega
    have n3 : w2.heap.size < w6.heap.size := by omega
    simp only [D.val]
    go_wp2_with fail
    refine (eq_all 2000000 d3 d1 w6.heap.size _ (by omega) (ho3.inn.alloc (Nat.le_refl _) _) ((j1.more (by omega)).alloc (Nat.le_refl _) _) (by simp)).mono ?_
    rintro e w7 ⟨rfl, hb7⟩
    rw [E31.out]
    simp only [World.size_alloc] at hb7
    have z7 := hb7.size
    simp only [World.size_alloc] at z7
    have q7 : Below w6.heap.size w6 w7 := ((Below.refl _ _).alloc (Nat.le_refl _) _).trans (hb7.mono (by omega))
    have y2 := D.Box.below (⟨g0, g1, g2, g3⟩ : D.Box w6 w2.heap.size d2) q7 (by omega)
    have o7 := o6.below (q7.mono (by omega))
    have b7 : Below w.heap.size w w7 := b6.trans (q7.mono (by omega))
    clear hb7 q7 o6 b6 a0 a1 a2 a3 g0 g1 g2 g3
    obtain ⟨g0, g1, g2, g3⟩ := y2
    go_wp2_with fail
    refine (heldD_any d2 (w1.heap.size + 1) w2.heap.size _ 1 s2 (by omega) (by omega) o7 (by omega)).mono ?_
    rintro e w8 ⟨rfl, hb8⟩
    have b8 : Below w.heap.size w w8 := b7.trans (hb8.mono (by omega))
    clear hb8 b7
    go_wp2_with fail
    go_ret
    exact ⟨rfl, b8⟩

set_option maxRecDepth 100000 in
set_option maxHeartbeats 1000000 in
theorem law_stringD (s : ByteArray) (hs : s.size ≤ 9223372036854775807) (w : World) : Calls Try.prog 8 #[.string s] w fun e w' => e = .returned (.bool true) ∧ Below w.heap.size w w' := by
  have hxs : (leafD 4 0 s).size ≤ 2000000 := leafD_size _ _ _
  by_cases hbig : (1048576 : Int) < (s.size : Int)
  · clear hxs
    go_enter Try.func8, Try.ntmps8
    go_wp2_with fail
    go_ret
    exact ⟨rfl, Below.refl _ _⟩
  · go_enter Try.func8, Try.ntmps8
    go_wp2_with fail
    refine (specStringD_any s _ hs).mono ?_
    rintro e w1 ⟨d1, rfl, he1, ho1, hb1⟩
    have z1 := hb1.size
    have Q1 := Lib.hid he1
    have x1 := D.Box.new w1 d1 25
    clear he1
    simp only [D.val]
    go_wp2_with fail
    refine (implStringD_any s _ hs).mono ?_
    rintro e w2 ⟨d2, rfl, he2, ho2, hb2⟩
    have z2 := hb2.size
    simp only [World.size_alloc] at z2 ho2 hb2
    have z2' : w1.heap.size < w2.heap.size := by omega
    have Q2 := Lib.hid he2
    have x1 := x1.below hb2 (by simp)
    have x2 := D.Box.new w2 d2 25
    obtain ⟨a0, a1, a2, a3⟩ := x1
    clear he2
    simp only [D.val]
    go_wp2_with fail
    have E21 : Hid (D.eqB d2 d1 = true) := D.eqB_of_er (Q2.out.trans Q1.out.symm)
    have s2 : d2.size ≤ 2000000 := by rw [← D.size_er, Q2.out]; exact hxs
    have j1 : d1.In w2 w1.heap.size := (ho1.inn.alloc (Nat.le_refl _) _).below (hb2.mono (by omega))
    refine (eq_all 2000000 d2 d1 w2.heap.size _ (by omega) (ho2.inn.alloc (Nat.le_refl _) _) ((j1.more (by omega)).alloc (Nat.le_refl _) _) (by simp)).mono ?_
    rintro e w3 ⟨rfl, hb3⟩
    rw [E21.out]
    simp only [World.size_alloc] at hb3
    have z3 := hb3.size
    simp only [World.size_alloc] at z3
    have q3 : Below w2.heap.size w2 w3 := ((Below.refl _ _).alloc (Nat.le_refl _) _).trans (hb3.mono (by omega))
    have y2 := D.Box.below (B := w2.heap.size + 1) x2 hb3 (by omega)
    have y1 := D.Box.below (⟨a0, a1, a2, a3⟩ : D.Box w2 w1.heap.size d1) q3 z2'
    have o3 := ho2.below q3
    have j1 := j1.below (q3.mono (by omega))
    have b3 : Below w.heap.size w w3 := ((hb1.alloc z1 _).trans (hb2.mono (by omega))).trans (q3.mono (by omega))
    clear x2 hb3 hb2 q3 ho1 ho2 x1 hb1
    obtain ⟨a0, a1, a2, a3⟩ := y1
    obtain ⟨g0, g1, g2, g3⟩ := y2
    go_wp2_with fail
    refine (markD_any d2 (w1.heap.size + 1) w2.heap.size _ 1 s2 (by omega) (by omega) o3 (by omega)).mono ?_
    rintro e w4 ⟨rfl, o4, hb4⟩
    have z4 := hb4.size
    have y1 := D.Box.chg (⟨a0, a1, a2, a3⟩ : D.Box w3 w1.heap.size d1) hb4 (by omega) (fun hm => by have := o3.lo_ _ hm; omega)
    have y2 := D.Box.chg (⟨g0, g1, g2, g3⟩ : D.Box w3 w2.heap.size d2) hb4 (by omega) (fun hm => by have := o3.inn.blk_lt _ hm; omega)
    have j1 := j1.below (hb4.below (B := w1.heap.size) (fun k hk => by have := o3.lo_ _ hk; omega) (by omega))
    have b4 : Below w.heap.size w w4 := b3.trans (hb4.below (fun k hk => by have := o3.lo_ _ hk; omega) (by omega))
    clear hb4 o3 b3 a0 a1 a2 a3 g0 g1 g2 g3
    obtain ⟨a0, a1, a2, a3⟩ := y1
    obtain ⟨g0, g1, g2, g3⟩ := y2
    go_wp2_with fail
    refine (heldD_any d2 (w1.heap.size + 1) w2.heap.size _ 1 s2 (by omega) (by omega) o4 (by omega)).mono ?_
    rintro e w5 ⟨rfl, hb5⟩
    have z5 := hb5.size
    have y1 := D.Box.below (⟨a0, a1, a2, a3⟩ : D.Box w4 w1.heap.size d1) hb5 (by omega)
    have y2 := D.Box.below (⟨g0, g1, g2, g3⟩ : D.Box w4 w2.heap.size d2) hb5 (by omega)
    have j1 := j1.below (hb5.mono (by omega))
    have o5 := o4.below (hb5.mono (by omega))
    have b5 : Below w.heap.size w w5 := b4.trans (hb5.mono (by omega))
    clear hb5 o4 b4 a0 a1 a2 a3 g0 g1 g2 g3
    obtain ⟨a0, a1, a2, a3⟩ := y1
    obtain ⟨g0, g1, g2, g3⟩ := y2
    have n1 : ¬ (1 + 3 * (D.sizeL d2.l : Int) < 0) := by omega
    go_wp2_with fail
    refine (implStringD_any s _ hs).mono ?_
    rintro e w6 ⟨d3, rfl, he3, ho3, hb6⟩
    have Q3 := Lib.hid he3
    have z6 := hb6.size
    have E31 : Hid (D.eqB d3 d1 = true) := D.eqB_of_er (Q3.out.trans Q1.out.symm)
    have s3 : d3.size ≤ 2000000 := by rw [← D.size_er, Q3.out]; exact hxs
    have y1 := D.Box.below (⟨a0, a1, a2, a3⟩ : D.Box w5 w1.heap.size d1) hb6 (by omega)
    have y2 := D.Box.below (⟨g0, g1, g2, g3⟩ : D.Box w5 w2.heap.size d2) hb6 (by omega)
    have j1 := j1.below (hb6.mono (by omega))
    have o6 := o5.below (hb6.mono (by omega))
    have b6 : Below w.heap.size w w6 := b5.trans (hb6.mono (by omega))
    clear hb6 o5 b5 a0 a1 a2 a3 g0 g1 g2 g3 he3
    obtain ⟨a0, a1, a2, a3⟩ := y1
    obtain ⟨g0, g1, g2, g3⟩ := y2
    have n2 : w1.heap.size < w6.heap.size := by omega
    have n3 : w2.heap.size < w6.heap.size := by omega
    simp only [D.val]
    go_wp2_with fail
    refine (eq_all 2000000 d3 d1 w6.heap.size _ (by omega) (ho3.inn.alloc (Nat.le_refl _) _) ((j1.more (by omega)).alloc (Nat.le_refl _) _) (by simp)).mono ?_
    rintro e w7 ⟨rfl, hb7⟩
    rw [E31.out]
    simp only [World.size_alloc] at hb7
    have z7 := hb7.size
    simp only [World.size_alloc] at z7
    have q7 : Below w6.heap.size w6 w7 := ((Below.refl _ _).alloc (Nat.le_refl _) _).trans (hb7.mono (by omega))
    have y2 := D.Box.below (⟨g0, g1, g2, g3⟩ : D.Box w6 w2.heap.size d2) q7 (by omega)
    have o7 := o6.below (q7.mono (by omega))
    have b7 : Below w.heap.size w w7 := b6.trans (q7.mono (by omega))
    clear hb7 q7 o6 b6 a0 a1 a2 a3 g0 g1 g2 g3
    obtain ⟨g0, g1, g2, g3⟩ := y2
    go_wp2_with fail
    refine (heldD_any d2 (w1.heap.size + 1) w2.heap.size _ 1 s2 (by omega) (by omega) o7 (by omega)).mono ?_
    rintro e w8 ⟨rfl, hb8⟩
    have b8 : Below w.heap.size w w8 := b7.trans (hb8.mono (by omega))
    clear hb8 b7
    go_wp2_with fail
    go_ret
    exact ⟨rfl, b8⟩
end Go.Proofs.Ytkmimpfpmkpdoaa
