/-
  SwapSymbols, the model's and the program's.
-/
import Derived.Test.YtiopophoioiafaaSwapIn
import Derived.Test.YtiopophoioiafaaCopy
import Derived.Test.YtiopophoioiafaaIsD
namespace Go.Proofs.Ytiopophoioiafaa
open Go.RowKit

/-- SwapSymbols' answer. -/
def D.swE (sa sb : ByteArray) (d : D) : D := if d.isD = true ∧ symB sa = true ∧ symB sb = true then D.sw sa sb d.er else d.er
theorem D.swE_of_er {sa sb : ByteArray} {d e : D} (h : D.er d = D.er e) : D.swE sa sb d = D.swE sa sb e := by unfold D.swE; rw [D.isD_of_er h, h]
theorem D.swE_size (sa sb : ByteArray) (d : D) : (D.swE sa sb d).size = d.size := by
  unfold D.swE
  split
  · rw [D.size_sw, D.size_er]
  · exact D.size_er d

set_option maxHeartbeats 1000000 in
theorem specSwapS_yes (sa sb : ByteArray) (ha : sa.size ≤ 9223372036854775807) (hb : sb.size ≤ 9223372036854775807) (d : D) (B : Nat) (w : World) (hin : d.In w B) (hB : B ≤ w.heap.size) (hs : d.size ≤ 2000000) (hI : d.isD = true) (hA : symB sa = true) (hS : symB sb = true) :
    Calls Try.prog 28 #[d.val, .string sa, .string sb] w (RetD (D.swE sa sb d) w) := by
  have hE : D.swE sa sb d = D.sw sa sb d.er := by unfold D.swE; rw [if_pos ⟨hI, hA, hS⟩]
  have HE := Lib.hid hE
  have HI := Lib.hid hI
  have HA := Lib.hid hA
  have HS := Lib.hid hS
  clear hE hI hA hS
  have x0 := D.Box.new w d 25
  unfold D.val
  go_enter Try.func28, Try.ntmps28
  go_wp2_with fail
  refine (specIsD_any d B _ ((hin.alloc hB _).alloc (by simp; omega) _) (by simp; omega) hs).mono ?_
  rintro e w1 ⟨rfl, hb1⟩
  rw [HI.out]
  have z1 := hb1.size
  obtain ⟨hc, hf⟩ := bcell hb1
  simp only [World.size_alloc] at z1 hb1 hc hf
  have x1 := D.Box.below (B := w.heap.size + 1 + 1) (x0.below (B := w.heap.size + 1) ((Below.refl _ _).alloc (by simp) _) (by omega)) hb1 (by omega)
  have b1 : Below w.heap.size w w1 := (((Below.refl _ _).alloc (Nat.le_refl _) _).alloc (by simp) _).trans (hb1.mono (by omega))
  have yr := D.Box.new (w.alloc (.cells #[.int .i64 d.k, .int .i64 d.n, .string d.t, .slice d.A d.l.length d.c] 25)) (.mk 0 0 ⟨#[]⟩ none 0 []) 25
  have yb := D.Blk.new (w.alloc (.cells #[.int .i64 d.k, .int .i64 d.n, .string d.t, .slice d.A d.l.length d.c] 25)) 25 #[.int .i64 0, .int .i64 0, .string ⟨#[]⟩, .slice none 0 0]
  simp only [World.size_alloc] at yr yb
  have yr := yr.below hb1 (by omega)
  have yf : ∀ q, w1.frozen? ⟨w.heap.size + 1, q, none⟩ = false := fun q => (hb1.frozen (p := ⟨w.heap.size + 1, q, none⟩) (by simp)).trans (yb.frozen q)
  clear yb
  clear hc hf hb1
  obtain ⟨a0, a1, a2, a3⟩ := x1
  go_wp2_with fail
  refine (specSymbol_any _ _).mono ?_
  rintro e w' ⟨rfl, rfl⟩
  rw [HA.out]
  go_wp2_with fail
  refine (specSymbol_any _ _).mono ?_
  rintro e w' ⟨rfl, rfl⟩
  rw [HS.out]
  go_wp2_with fail
  refine (l1Swap_any sa sb ha hb 2000000 d B _ hs (Nat.le_refl _) (hin.below (b1.mono hB)) (by omega)).mono ?_
  rintro e w2 ⟨d1, rfl, hd1, ho1, hb2⟩
  have z2 := hb2.size
  have yr := yr.below hb2 (by omega)
  have yf2 : ∀ q, w2.frozen? ⟨w.heap.size + 1, q, none⟩ = false := fun q => (hb2.frozen (p := ⟨w.heap.size + 1, q, none⟩) (by simp; omega)).trans (yf q)
  have b2 := b1.trans (hb2.mono (by omega))
  have Q1 := Lib.hid hd1
  have q0 := yf2 0
  have q1 := yf2 1
  have q2 := yf2 2
  have q3 := yf2 3
  clear hb2 b1 hd1 yf yf2
  obtain ⟨r0, r1, r2, r3⟩ := yr
  simp only [D.val]
  go_wp2_with fail
  refine bodyPost_ret (v := .agg #[.int .i64 d1.k, .int .i64 d1.n, .string d1.t, .slice d1.A d1.l.length d1.c]) (by simp [results, Try.results28, go_sem, r0, r1, r2, r3]) rfl ⟨d1, rfl, by rw [Q1.out, HE.out], ?_, ?_⟩
  · simp only [World.size_setCell]
    exact ((((ho1.far (by simp <;> omega) _).far (by simp <;> omega) _).far (by simp <;> omega) _).far (by simp <;> omega) _).wide (by omega) (Nat.le_refl _)
  · exact (((b2.setCell (by simp) _).setCell (by simp) _).setCell (by simp) _).setCell (by simp) _

set_option maxHeartbeats 1000000 in
theorem specSwapS_nod (sa sb : ByteArray) (ha : sa.size ≤ 9223372036854775807) (hb : sb.size ≤ 9223372036854775807) (d : D) (B : Nat) (w : World) (hin : d.In w B) (hB : B ≤ w.heap.size) (hs : d.size ≤ 2000000) (hI : d.isD = false) :
    Calls Try.prog 28 #[d.val, .string sa, .string sb] w (RetD (D.swE sa sb d) w) := by
  have hE : D.swE sa sb d = d.er := by unfold D.swE; rw [if_neg (fun h => by have := h.1; rw [hI] at this; cases this)]
  have HE := Lib.hid hE
  have HI := Lib.hid hI
  clear hE hI
  have x0 := D.Box.new w d 25
  unfold D.val
  go_enter Try.func28, Try.ntmps28
  go_wp2_with fail
  refine (specIsD_any d B _ ((hin.alloc hB _).alloc (by simp; omega) _) (by simp; omega) hs).mono ?_
  rintro e w1 ⟨rfl, hb1⟩
  rw [HI.out]
  have z1 := hb1.size
  obtain ⟨hc, hf⟩ := bcell hb1
  simp only [World.size_alloc] at z1 hb1 hc hf
  have x1 := D.Box.below (B := w.heap.size + 1 + 1) (x0.below (B := w.heap.size + 1) ((Below.refl _ _).alloc (by simp) _) (by omega)) hb1 (by omega)
  have b1 : Below w.heap.size w w1 := (((Below.refl _ _).alloc (Nat.le_refl _) _).alloc (by simp) _).trans (hb1.mono (by omega))
  have yr := D.Box.new (w.alloc (.cells #[.int .i64 d.k, .int .i64 d.n, .string d.t, .slice d.A d.l.length d.c] 25)) (.mk 0 0 ⟨#[]⟩ none 0 []) 25
  have yb := D.Blk.new (w.alloc (.cells #[.int .i64 d.k, .int .i64 d.n, .string d.t, .slice d.A d.l.length d.c] 25)) 25 #[.int .i64 0, .int .i64 0, .string ⟨#[]⟩, .slice none 0 0]
  simp only [World.size_alloc] at yr yb
  have yr := yr.below hb1 (by omega)
  have yf : ∀ q, w1.frozen? ⟨w.heap.size + 1, q, none⟩ = false := fun q => (hb1.frozen (p := ⟨w.heap.size + 1, q, none⟩) (by simp)).trans (yb.frozen q)
  clear yb
  clear hc hf hb1
  obtain ⟨a0, a1, a2, a3⟩ := x1
  go_wp2_with fail
  refine (l1Copy_any 2000000 d B _ hs (Nat.le_refl _) (hin.below (b1.mono hB)) (by omega)).mono ?_
  rintro e w2 ⟨d1, rfl, hd1, ho1, hb2⟩
  have z2 := hb2.size
  have yr := yr.below hb2 (by omega)
  have yf2 : ∀ q, w2.frozen? ⟨w.heap.size + 1, q, none⟩ = false := fun q => (hb2.frozen (p := ⟨w.heap.size + 1, q, none⟩) (by simp; omega)).trans (yf q)
  have b2 := b1.trans (hb2.mono (by omega))
  have Q1 := Lib.hid hd1
  have q0 := yf2 0
  have q1 := yf2 1
  have q2 := yf2 2
  have q3 := yf2 3
  clear hb2 b1 hd1 yf yf2
  obtain ⟨r0, r1, r2, r3⟩ := yr
  simp only [D.val]
  go_wp2_with fail
  refine bodyPost_ret (v := .agg #[.int .i64 d1.k, .int .i64 d1.n, .string d1.t, .slice d1.A d1.l.length d1.c]) (by simp [results, Try.results28, go_sem, r0, r1, r2, r3]) rfl ⟨d1, rfl, by rw [Q1.out, HE.out], ?_, ?_⟩
  · simp only [World.size_setCell]
    exact ((((ho1.far (by simp <;> omega) _).far (by simp <;> omega) _).far (by simp <;> omega) _).far (by simp <;> omega) _).wide (by omega) (Nat.le_refl _)
  · exact (((b2.setCell (by simp) _).setCell (by simp) _).setCell (by simp) _).setCell (by simp) _

set_option maxHeartbeats 1000000 in
theorem specSwapS_noa (sa sb : ByteArray) (ha : sa.size ≤ 9223372036854775807) (hb : sb.size ≤ 9223372036854775807) (d : D) (B : Nat) (w : World) (hin : d.In w B) (hB : B ≤ w.heap.size) (hs : d.size ≤ 2000000) (hI : d.isD = true) (hA : symB sa = false) :
    Calls Try.prog 28 #[d.val, .string sa, .string sb] w (RetD (D.swE sa sb d) w) := by
  have hE : D.swE sa sb d = d.er := by unfold D.swE; rw [if_neg (fun h => by have := h.2.1; rw [hA] at this; cases this)]
  have HE := Lib.hid hE
  have HI := Lib.hid hI
  have HA := Lib.hid hA
  clear hE hI hA
  have x0 := D.Box.new w d 25
  unfold D.val
  go_enter Try.func28, Try.ntmps28
  go_wp2_with fail
  refine (specIsD_any d B _ ((hin.alloc hB _).alloc (by simp; omega) _) (by simp; omega) hs).mono ?_
  rintro e w1 ⟨rfl, hb1⟩
  rw [HI.out]
  have z1 := hb1.size
  obtain ⟨hc, hf⟩ := bcell hb1
  simp only [World.size_alloc] at z1 hb1 hc hf
  have x1 := D.Box.below (B := w.heap.size + 1 + 1) (x0.below (B := w.heap.size + 1) ((Below.refl _ _).alloc (by simp) _) (by omega)) hb1 (by omega)
  have b1 : Below w.heap.size w w1 := (((Below.refl _ _).alloc (Nat.le_refl _) _).alloc (by simp) _).trans (hb1.mono (by omega))
  have yr := D.Box.new (w.alloc (.cells #[.int .i64 d.k, .int .i64 d.n, .string d.t, .slice d.A d.l.length d.c] 25)) (.mk 0 0 ⟨#[]⟩ none 0 []) 25
  have yb := D.Blk.new (w.alloc (.cells #[.int .i64 d.k, .int .i64 d.n, .string d.t, .slice d.A d.l.length d.c] 25)) 25 #[.int .i64 0, .int .i64 0, .string ⟨#[]⟩, .slice none 0 0]
  simp only [World.size_alloc] at yr yb
  have yr := yr.below hb1 (by omega)
  have yf : ∀ q, w1.frozen? ⟨w.heap.size + 1, q, none⟩ = false := fun q => (hb1.frozen (p := ⟨w.heap.size + 1, q, none⟩) (by simp)).trans (yb.frozen q)
  clear yb
  clear hc hf hb1
  obtain ⟨a0, a1, a2, a3⟩ := x1
  go_wp2_with fail
  refine (specSymbol_any _ _).mono ?_
  rintro e w' ⟨rfl, rfl⟩
  rw [HA.out]
  go_wp2_with fail
  refine (l1Copy_any 2000000 d B _ hs (Nat.le_refl _) (hin.below (b1.mono hB)) (by omega)).mono ?_
  rintro e w2 ⟨d1, rfl, hd1, ho1, hb2⟩
  have z2 := hb2.size
  have yr := yr.below hb2 (by omega)
  have yf2 : ∀ q, w2.frozen? ⟨w.heap.size + 1, q, none⟩ = false := fun q => (hb2.frozen (p := ⟨w.heap.size + 1, q, none⟩) (by simp; omega)).trans (yf q)
  have b2 := b1.trans (hb2.mono (by omega))
  have Q1 := Lib.hid hd1
  have q0 := yf2 0
  have q1 := yf2 1
  have q2 := yf2 2
  have q3 := yf2 3
  clear hb2 b1 hd1 yf yf2
  obtain ⟨r0, r1, r2, r3⟩ := yr
  simp only [D.val]
  go_wp2_with fail
  refine bodyPost_ret (v := .agg #[.int .i64 d1.k, .int .i64 d1.n, .string d1.t, .slice d1.A d1.l.length d1.c]) (by simp [results, Try.results28, go_sem, r0, r1, r2, r3]) rfl ⟨d1, rfl, by rw [Q1.out, HE.out], ?_, ?_⟩
  · simp only [World.size_setCell]
    exact ((((ho1.far (by simp <;> omega) _).far (by simp <;> omega) _).far (by simp <;> omega) _).far (by simp <;> omega) _).wide (by omega) (Nat.le_refl _)
  · exact (((b2.setCell (by simp) _).setCell (by simp) _).setCell (by simp) _).setCell (by simp) _

set_option maxHeartbeats 1000000 in
theorem specSwapS_nob (sa sb : ByteArray) (ha : sa.size ≤ 9223372036854775807) (hb : sb.size ≤ 9223372036854775807) (d : D) (B : Nat) (w : World) (hin : d.In w B) (hB : B ≤ w.heap.size) (hs : d.size ≤ 2000000) (hI : d.isD = true) (hA : symB sa = true) (hS : symB sb = false) :
    Calls Try.prog 28 #[d.val, .string sa, .string sb] w (RetD (D.swE sa sb d) w) := by
  have hE : D.swE sa sb d = d.er := by unfold D.swE; rw [if_neg (fun h => by have := h.2.2; rw [hS] at this; cases this)]
  have HE := Lib.hid hE
  have HI := Lib.hid hI
  have HA := Lib.hid hA
  have HS := Lib.hid hS
  clear hE hI hA hS
  have x0 := D.Box.new w d 25
  unfold D.val
  go_enter Try.func28, Try.ntmps28
  go_wp2_with fail
  refine (specIsD_any d B _ ((hin.alloc hB _).alloc (by simp; omega) _) (by simp; omega) hs).mono ?_
  rintro e w1 ⟨rfl, hb1⟩
  rw [HI.out]
  have z1 := hb1.size
  obtain ⟨hc, hf⟩ := bcell hb1
  simp only [World.size_alloc] at z1 hb1 hc hf
  have x1 := D.Box.below (B := w.heap.size + 1 + 1) (x0.below (B := w.heap.size + 1) ((Below.refl _ _).alloc (by simp) _) (by omega)) hb1 (by omega)
  have b1 : Below w.heap.size w w1 := (((Below.refl _ _).alloc (Nat.le_refl _) _).alloc (by simp) _).trans (hb1.mono (by omega))
  have yr := D.Box.new (w.alloc (.cells #[.int .i64 d.k, .int .i64 d.n, .string d.t, .slice d.A d.l.length d.c] 25)) (.mk 0 0 ⟨#[]⟩ none 0 []) 25
  have yb := D.Blk.new (w.alloc (.cells #[.int .i64 d.k, .int .i64 d.n, .string d.t, .slice d.A d.l.length d.c] 25)) 25 #[.int .i64 0, .int .i64 0, .string ⟨#[]⟩, .slice none 0 0]
  simp only [World.size_alloc] at yr yb
  have yr := yr.below hb1 (by omega)
  have yf : ∀ q, w1.frozen? ⟨w.heap.size + 1, q, none⟩ = false := fun q => (hb1.frozen (p := ⟨w.heap.size + 1, q, none⟩) (by simp)).trans (yb.frozen q)
  clear yb
  clear hc hf hb1
  obtain ⟨a0, a1, a2, a3⟩ := x1
  go_wp2_with fail
  refine (specSymbol_any _ _).mono ?_
  rintro e w' ⟨rfl, rfl⟩
  rw [HA.out]
  go_wp2_with fail
  refine (specSymbol_any _ _).mono ?_
  rintro e w' ⟨rfl, rfl⟩
  rw [HS.out]
  go_wp2_with fail
  refine (l1Copy_any 2000000 d B _ hs (Nat.le_refl _) (hin.below (b1.mono hB)) (by omega)).mono ?_
  rintro e w2 ⟨d1, rfl, hd1, ho1, hb2⟩
  have z2 := hb2.size
  have yr := yr.below hb2 (by omega)
  have yf2 : ∀ q, w2.frozen? ⟨w.heap.size + 1, q, none⟩ = false := fun q => (hb2.frozen (p := ⟨w.heap.size + 1, q, none⟩) (by simp; omega)).trans (yf q)
  have b2 := b1.trans (hb2.mono (by omega))
  have Q1 := Lib.hid hd1
  have q0 := yf2 0
  have q1 := yf2 1
  have q2 := yf2 2
  have q3 := yf2 3
  clear hb2 b1 hd1 yf yf2
  obtain ⟨r0, r1, r2, r3⟩ := yr
  simp only [D.val]
  go_wp2_with fail
  refine bodyPost_ret (v := .agg #[.int .i64 d1.k, .int .i64 d1.n, .string d1.t, .slice d1.A d1.l.length d1.c]) (by simp [results, Try.results28, go_sem, r0, r1, r2, r3]) rfl ⟨d1, rfl, by rw [Q1.out, HE.out], ?_, ?_⟩
  · simp only [World.size_setCell]
    exact ((((ho1.far (by simp <;> omega) _).far (by simp <;> omega) _).far (by simp <;> omega) _).far (by simp <;> omega) _).wide (by omega) (Nat.le_refl _)
  · exact (((b2.setCell (by simp) _).setCell (by simp) _).setCell (by simp) _).setCell (by simp) _

theorem specSwapS_any (sa sb : ByteArray) (ha : sa.size ≤ 9223372036854775807) (hb : sb.size ≤ 9223372036854775807) (d : D) (B : Nat) (w : World) (hin : d.In w B) (hB : B ≤ w.heap.size) (hs : d.size ≤ 2000000) :
    Calls Try.prog 28 #[d.val, .string sa, .string sb] w (RetD (D.swE sa sb d) w) := by
  cases hI : d.isD
  · exact specSwapS_nod sa sb ha hb d B w hin hB hs hI
  · cases hA : symB sa
    · exact specSwapS_noa sa sb ha hb d B w hin hB hs hI hA
    · cases hS : symB sb
      · exact specSwapS_nob sa sb ha hb d B w hin hB hs hI hA hS
      · exact specSwapS_yes sa sb ha hb d B w hin hB hs hI hA hS
end Go.Proofs.Ytiopophoioiafaa
