/-
  The rules of primitives; ArityOf of the model and of the program (written by gen/rules8.py).
-/
import Derived.Test.YtnldlbglgalbaabVuB
import Derived.Test.YtnldlbglgalbaabNames
import Derived.Test.YtnldlbglgalbaabWords
import Derived.Laws.EntriesVeiled
import Derived.Deep.DeepCutAuto
namespace Go.Proofs.Ytnldlbglgalbaab
open Go.RowKit

set_option maxRecDepth 100000 in
set_option maxHeartbeats 2000000 in
theorem ruleN_any (f : FuncId) (w : World) : Calls Try.prog 48 #[.func (.func f) #[] #[]] w fun e w' => ∃ g : Nat, e = .returned (.agg #[.int .i64 2, .func (.func 66) #[] #[.pointer (some ⟨g, 0, none⟩)]]) ∧ w.heap.size ≤ g ∧ g < w'.heap.size ∧ w'.cell? ⟨g, 0, none⟩ = some (.func (.func f) #[] #[]) ∧ Below w.heap.size w w' := by
  have hmf : ∀ (fn : Fn) (first cap : Array Value) (w : World), (Instr.makeFunc fn first cap).run Try.prog w = .ok (.func fn first cap) w := fun _ _ _ _ => rfl
  go_enter Try.func48, Try.ntmps48
  go_upto_region 1 with fail
  go_wp2_with fail
  obtain ⟨W1, hW1⟩ : ∃ W1, W1 = w.alloc (.cells #[.func (.func f) #[] #[]] 82) := ⟨_, rfl⟩
  obtain ⟨W2, hW2⟩ : ∃ W2, W2 = W1.alloc (.cells #[.int .i64 2, .func (.func 66) #[] #[.pointer (some ⟨w.heap.size, 0, none⟩)]] 72) := ⟨_, rfl⟩
  rw [← hW1, ← hW2]
  have z1 : W1.heap.size = w.heap.size + 1 := by rw [hW1]; simp
  have z2 : W2.heap.size = w.heap.size + 1 + 1 := by rw [hW2]; simp [z1]
  have B1 : Below w.heap.size w W1 := by rw [hW1]; exact (Below.refl _ _).alloc (Nat.le_refl _) _
  have B2 : Below W1.heap.size W1 W2 := by rw [hW2]; exact (Below.refl _ _).alloc (Nat.le_refl _) _
  have R0 : D.Blk W2 (w.heap.size + 1) 72 #[.int .i64 2, .func (.func 66) #[] #[.pointer (some ⟨w.heap.size, 0, none⟩)]] := by rw [hW2, ← z1]; exact D.Blk.new _ _ _
  have C0 : D.Blk W1 w.heap.size 82 #[.func (.func f) #[] #[]] := by rw [hW1]; exact D.Blk.new _ _ _
  have c0 := (C0.below B2 (by omega)).cell 0
  have r0 := R0.cell 0
  have r1 := R0.cell 1
  clear hW1 hW2
  refine bodyPost_ret (v := .agg #[.int .i64 2, .func (.func 66) #[] #[.pointer (some ⟨w.heap.size, 0, none⟩)]]) (by simp [results, Try.results48, go_sem, r0, r1]) rfl ⟨w.heap.size, rfl, Nat.le_refl _, by omega, c0, B1.trans (B2.mono (by omega))⟩

set_option maxRecDepth 100000 in
set_option maxHeartbeats 2000000 in
theorem ruleP_any (f : FuncId) (w : World) : Calls Try.prog 56 #[.func (.func f) #[] #[]] w fun e w' => ∃ g : Nat, e = .returned (.agg #[.int .i64 1, .func (.func 67) #[] #[.pointer (some ⟨g, 0, none⟩)]]) ∧ w.heap.size ≤ g ∧ g < w'.heap.size ∧ w'.cell? ⟨g, 0, none⟩ = some (.func (.func f) #[] #[]) ∧ Below w.heap.size w w' := by
  have hmf : ∀ (fn : Fn) (first cap : Array Value) (w : World), (Instr.makeFunc fn first cap).run Try.prog w = .ok (.func fn first cap) w := fun _ _ _ _ => rfl
  go_enter Try.func56, Try.ntmps56
  go_upto_region 1 with fail
  go_wp2_with fail
  obtain ⟨W1, hW1⟩ : ∃ W1, W1 = w.alloc (.cells #[.func (.func f) #[] #[]] 84) := ⟨_, rfl⟩
  obtain ⟨W2, hW2⟩ : ∃ W2, W2 = W1.alloc (.cells #[.int .i64 1, .func (.func 67) #[] #[.pointer (some ⟨w.heap.size, 0, none⟩)]] 72) := ⟨_, rfl⟩
  rw [← hW1, ← hW2]
  have z1 : W1.heap.size = w.heap.size + 1 := by rw [hW1]; simp
  have z2 : W2.heap.size = w.heap.size + 1 + 1 := by rw [hW2]; simp [z1]
  have B1 : Below w.heap.size w W1 := by rw [hW1]; exact (Below.refl _ _).alloc (Nat.le_refl _) _
  have B2 : Below W1.heap.size W1 W2 := by rw [hW2]; exact (Below.refl _ _).alloc (Nat.le_refl _) _
  have R0 : D.Blk W2 (w.heap.size + 1) 72 #[.int .i64 1, .func (.func 67) #[] #[.pointer (some ⟨w.heap.size, 0, none⟩)]] := by rw [hW2, ← z1]; exact D.Blk.new _ _ _
  have C0 : D.Blk W1 w.heap.size 84 #[.func (.func f) #[] #[]] := by rw [hW1]; exact D.Blk.new _ _ _
  have c0 := (C0.below B2 (by omega)).cell 0
  have r0 := R0.cell 0
  have r1 := R0.cell 1
  clear hW1 hW2
  refine bodyPost_ret (v := .agg #[.int .i64 1, .func (.func 67) #[] #[.pointer (some ⟨w.heap.size, 0, none⟩)]]) (by simp [results, Try.results56, go_sem, r0, r1]) rfl ⟨w.heap.size, rfl, Nat.le_refl _, by omega, c0, B1.trans (B2.mono (by omega))⟩

set_option maxRecDepth 100000 in
set_option maxHeartbeats 2000000 in
theorem ruleT_any (f : FuncId) (w : World) : Calls Try.prog 59 #[.func (.func f) #[] #[]] w fun e w' => ∃ g : Nat, e = .returned (.agg #[.int .i64 1, .func (.func 68) #[] #[.pointer (some ⟨g, 0, none⟩)]]) ∧ w.heap.size ≤ g ∧ g < w'.heap.size ∧ w'.cell? ⟨g, 0, none⟩ = some (.func (.func f) #[] #[]) ∧ Below w.heap.size w w' := by
  have hmf : ∀ (fn : Fn) (first cap : Array Value) (w : World), (Instr.makeFunc fn first cap).run Try.prog w = .ok (.func fn first cap) w := fun _ _ _ _ => rfl
  go_enter Try.func59, Try.ntmps59
  go_upto_region 1 with fail
  go_wp2_with fail
  obtain ⟨W1, hW1⟩ : ∃ W1, W1 = w.alloc (.cells #[.func (.func f) #[] #[]] 51) := ⟨_, rfl⟩
  obtain ⟨W2, hW2⟩ : ∃ W2, W2 = W1.alloc (.cells #[.int .i64 1, .func (.func 68) #[] #[.pointer (some ⟨w.heap.size, 0, none⟩)]] 72) := ⟨_, rfl⟩
  rw [← hW1, ← hW2]
  have z1 : W1.heap.size = w.heap.size + 1 := by rw [hW1]; simp
  have z2 : W2.heap.size = w.heap.size + 1 + 1 := by rw [hW2]; simp [z1]
  have B1 : Below w.heap.size w W1 := by rw [hW1]; exact (Below.refl _ _).alloc (Nat.le_refl _) _
  have B2 : Below W1.heap.size W1 W2 := by rw [hW2]; exact (Below.refl _ _).alloc (Nat.le_refl _) _
  have R0 : D.Blk W2 (w.heap.size + 1) 72 #[.int .i64 1, .func (.func 68) #[] #[.pointer (some ⟨w.heap.size, 0, none⟩)]] := by rw [hW2, ← z1]; exact D.Blk.new _ _ _
  have C0 : D.Blk W1 w.heap.size 51 #[.func (.func f) #[] #[]] := by rw [hW1]; exact D.Blk.new _ _ _
  have c0 := (C0.below B2 (by omega)).cell 0
  have r0 := R0.cell 0
  have r1 := R0.cell 1
  clear hW1 hW2
  refine bodyPost_ret (v := .agg #[.int .i64 1, .func (.func 68) #[] #[.pointer (some ⟨w.heap.size, 0, none⟩)]]) (by simp [results, Try.results59, go_sem, r0, r1]) rfl ⟨w.heap.size, rfl, Nat.le_refl _, by omega, c0, B1.trans (B2.mono (by omega))⟩

/-- The rules lie in block g. -/
structure Rules8 (w : World) (g h0 h1 h2 h3 h4 h6 h7 h8 h9 h10 h12 : Nat) : Prop where
  row : D.Blk w g 72 #[.int .i64 2, .func (.func 66) #[] #[.pointer (some ⟨h0, 0, none⟩)], .int .i64 2, .func (.func 66) #[] #[.pointer (some ⟨h1, 0, none⟩)], .int .i64 2, .func (.func 66) #[] #[.pointer (some ⟨h2, 0, none⟩)], .int .i64 2, .func (.func 66) #[] #[.pointer (some ⟨h3, 0, none⟩)], .int .i64 2, .func (.func 66) #[] #[.pointer (some ⟨h4, 0, none⟩)], .int .i64 2, .nilFunc, .int .i64 1, .func (.func 67) #[] #[.pointer (some ⟨h6, 0, none⟩)], .int .i64 1, .func (.func 67) #[] #[.pointer (some ⟨h7, 0, none⟩)], .int .i64 1, .func (.func 68) #[] #[.pointer (some ⟨h8, 0, none⟩)], .int .i64 1, .func (.func 68) #[] #[.pointer (some ⟨h9, 0, none⟩)], .int .i64 1, .func (.func 68) #[] #[.pointer (some ⟨h10, 0, none⟩)], .int .i64 2, .func (.func 63) #[] #[], .int .i64 1, .func (.func 68) #[] #[.pointer (some ⟨h12, 0, none⟩)], .int .i64 1, .nilFunc]
  c0 : w.cell? ⟨h0, 0, none⟩ = some (.func (.func 49) #[] #[])
  c1 : w.cell? ⟨h1, 0, none⟩ = some (.func (.func 51) #[] #[])
  c2 : w.cell? ⟨h2, 0, none⟩ = some (.func (.func 52) #[] #[])
  c3 : w.cell? ⟨h3, 0, none⟩ = some (.func (.func 53) #[] #[])
  c4 : w.cell? ⟨h4, 0, none⟩ = some (.func (.func 55) #[] #[])
  c6 : w.cell? ⟨h6, 0, none⟩ = some (.func (.func 57) #[] #[])
  c7 : w.cell? ⟨h7, 0, none⟩ = some (.func (.func 58) #[] #[])
  c8 : w.cell? ⟨h8, 0, none⟩ = some (.func (.func 60) #[] #[])
  c9 : w.cell? ⟨h9, 0, none⟩ = some (.func (.func 61) #[] #[])
  c10 : w.cell? ⟨h10, 0, none⟩ = some (.func (.func 62) #[] #[])
  c12 : w.cell? ⟨h12, 0, none⟩ = some (.func (.func 64) #[] #[])

set_option maxRecDepth 100000 in
set_option maxHeartbeats 4000000 in
theorem primRules_any (w : World) : Calls Try.prog 39 #[] w fun e w' => ∃ g h0 h1 h2 h3 h4 h6 h7 h8 h9 h10 h12 : Nat, e = .returned (.slice (some ⟨g, 0, none⟩) 14 14) ∧ Rules8 w' g h0 h1 h2 h3 h4 h6 h7 h8 h9 h10 h12 ∧ g < w'.heap.size ∧ h0 < w'.heap.size ∧ h1 < w'.heap.size ∧ h2 < w'.heap.size ∧ h3 < w'.heap.size ∧ h4 < w'.heap.size ∧ h6 < w'.heap.size ∧ h7 < w'.heap.size ∧ h8 < w'.heap.size ∧ h9 < w'.heap.size ∧ h10 < w'.heap.size ∧ h12 < w'.heap.size ∧ Below w.heap.size w w' := by
  have b0 : Below w.heap.size w w := Below.refl _ _
  go_enter Try.func39, Try.ntmps39
  go_wp2_with fail
  (with_reducible refine (ruleN_any 49 w).mono ?_)
  rintro e w1 ⟨h0, rfl, hl0, hu0, c0, hb1⟩
  have z1 := hb1.size
  have b1 : Below w.heap.size w w1 := b0.trans (hb1.mono (by have := b0.size; omega))
  go_wp2_with fail
  (with_reducible refine (ruleN_any 51 w1).mono ?_)
  rintro e w2 ⟨h1, rfl, hl1, hu1, c1, hb2⟩
  have z2 := hb2.size
  have b2 : Below w.heap.size w w2 := b1.trans (hb2.mono (by have := b1.size; omega))
  have c0 := (hb2.cell (p := ⟨h0, 0, none⟩) (show h0 < _ by omega)).trans c0
  go_wp2_with fail
  (with_reducible refine (ruleN_any 52 w2).mono ?_)
  rintro e w3 ⟨h2, rfl, hl2, hu2, c2, hb3⟩
  have z3 := hb3.size
  have b3 : Below w.heap.size w w3 := b2.trans (hb3.mono (by have := b2.size; omega))
  have c0 := (hb3.cell (p := ⟨h0, 0, none⟩) (show h0 < _ by omega)).trans c0
  have c1 := (hb3.cell (p := ⟨h1, 0, none⟩) (show h1 < _ by omega)).trans c1
  go_wp2_with fail
  (with_reducible refine (ruleN_any 53 w3).mono ?_)
  rintro e w4 ⟨h3, rfl, hl3, hu3, c3, hb4⟩
  have z4 := hb4.size
  have b4 : Below w.heap.size w w4 := b3.trans (hb4.mono (by have := b3.size; omega))
  have c0 := (hb4.cell (p := ⟨h0, 0, none⟩) (show h0 < _ by omega)).trans c0
  have c1 := (hb4.cell (p := ⟨h1, 0, none⟩) (show h1 < _ by omega)).trans c1
  have c2 := (hb4.cell (p := ⟨h2, 0, none⟩) (show h2 < _ by omega)).trans c2
  go_wp2_with fail
  (with_reducible refine (ruleN_any 55 w4).mono ?_)
  rintro e w5 ⟨h4, rfl, hl4, hu4, c4, hb5⟩
  have z5 := hb5.size
  have b5 : Below w.heap.size w w5 := b4.trans (hb5.mono (by have := b4.size; omega))
  have c0 := (hb5.cell (p := ⟨h0, 0, none⟩) (show h0 < _ by omega)).trans c0
  have c1 := (hb5.cell (p := ⟨h1, 0, none⟩) (show h1 < _ by omega)).trans c1
  have c2 := (hb5.cell (p := ⟨h2, 0, none⟩) (show h2 < _ by omega)).trans c2
  have c3 := (hb5.cell (p := ⟨h3, 0, none⟩) (show h3 < _ by omega)).trans c3
  go_wp2_with fail
  (with_reducible refine (ruleP_any 57 w5).mono ?_)
  rintro e w6 ⟨h6, rfl, hl6, hu6, c6, hb6⟩
  have z6 := hb6.size
  have b6 : Below w.heap.size w w6 := b5.trans (hb6.mono (by have := b5.size; omega))
  have c0 := (hb6.cell (p := ⟨h0, 0, none⟩) (show h0 < _ by omega)).trans c0
  have c1 := (hb6.cell (p := ⟨h1, 0, none⟩) (show h1 < _ by omega)).trans c1
  have c2 := (hb6.cell (p := ⟨h2, 0, none⟩) (show h2 < _ by omega)).trans c2
  have c3 := (hb6.cell (p := ⟨h3, 0, none⟩) (show h3 < _ by omega)).trans c3
  have c4 := (hb6.cell (p := ⟨h4, 0, none⟩) (show h4 < _ by omega)).trans c4
  go_wp2_with fail
  (with_reducible refine (ruleP_any 58 w6).mono ?_)
  rintro e w7 ⟨h7, rfl, hl7, hu7, c7, hb7⟩
  have z7 := hb7.size
  have b7 : Below w.heap.size w w7 := b6.trans (hb7.mono (by have := b6.size; omega))
  have c0 := (hb7.cell (p := ⟨h0, 0, none⟩) (show h0 < _ by omega)).trans c0
  have c1 := (hb7.cell (p := ⟨h1, 0, none⟩) (show h1 < _ by omega)).trans c1
  have c2 := (hb7.cell (p := ⟨h2, 0, none⟩) (show h2 < _ by omega)).trans c2
  have c3 := (hb7.cell (p := ⟨h3, 0, none⟩) (show h3 < _ by omega)).trans c3
  have c4 := (hb7.cell (p := ⟨h4, 0, none⟩) (show h4 < _ by omega)).trans c4
  have c6 := (hb7.cell (p := ⟨h6, 0, none⟩) (show h6 < _ by omega)).trans c6
  go_wp2_with fail
  (with_reducible refine (ruleT_any 60 w7).mono ?_)
  rintro e w8 ⟨h8, rfl, hl8, hu8, c8, hb8⟩
  have z8 := hb8.size
  have b8 : Below w.heap.size w w8 := b7.trans (hb8.mono (by have := b7.size; omega))
  have c0 := (hb8.cell (p := ⟨h0, 0, none⟩) (show h0 < _ by omega)).trans c0
  have c1 := (hb8.cell (p := ⟨h1, 0, none⟩) (show h1 < _ by omega)).trans c1
  have c2 := (hb8.cell (p := ⟨h2, 0, none⟩) (show h2 < _ by omega)).trans c2
  have c3 := (hb8.cell (p := ⟨h3, 0, none⟩) (show h3 < _ by omega)).trans c3
  have c4 := (hb8.cell (p := ⟨h4, 0, none⟩) (show h4 < _ by omega)).trans c4
  have c6 := (hb8.cell (p := ⟨h6, 0, none⟩) (show h6 < _ by omega)).trans c6
  have c7 := (hb8.cell (p := ⟨h7, 0, none⟩) (show h7 < _ by omega)).trans c7
  go_wp2_with fail
  (with_reducible refine (ruleT_any 61 w8).mono ?_)
  rintro e w9 ⟨h9, rfl, hl9, hu9, c9, hb9⟩
  have z9 := hb9.size
  have b9 : Below w.heap.size w w9 := b8.trans (hb9.mono (by have := b8.size; omega))
  have c0 := (hb9.cell (p := ⟨h0, 0, none⟩) (show h0 < _ by omega)).trans c0
  have c1 := (hb9.cell (p := ⟨h1, 0, none⟩) (show h1 < _ by omega)).trans c1
  have c2 := (hb9.cell (p := ⟨h2, 0, none⟩) (show h2 < _ by omega)).trans c2
  have c3 := (hb9.cell (p := ⟨h3, 0, none⟩) (show h3 < _ by omega)).trans c3
  have c4 := (hb9.cell (p := ⟨h4, 0, none⟩) (show h4 < _ by omega)).trans c4
  have c6 := (hb9.cell (p := ⟨h6, 0, none⟩) (show h6 < _ by omega)).trans c6
  have c7 := (hb9.cell (p := ⟨h7, 0, none⟩) (show h7 < _ by omega)).trans c7
  have c8 := (hb9.cell (p := ⟨h8, 0, none⟩) (show h8 < _ by omega)).trans c8
  go_wp2_with fail
  (with_reducible refine (ruleT_any 62 w9).mono ?_)
  rintro e w10 ⟨h10, rfl, hl10, hu10, c10, hb10⟩
  have z10 := hb10.size
  have b10 : Below w.heap.size w w10 := b9.trans (hb10.mono (by have := b9.size; omega))
  have c0 := (hb10.cell (p := ⟨h0, 0, none⟩) (show h0 < _ by omega)).trans c0
  have c1 := (hb10.cell (p := ⟨h1, 0, none⟩) (show h1 < _ by omega)).trans c1
  have c2 := (hb10.cell (p := ⟨h2, 0, none⟩) (show h2 < _ by omega)).trans c2
  have c3 := (hb10.cell (p := ⟨h3, 0, none⟩) (show h3 < _ by omega)).trans c3
  have c4 := (hb10.cell (p := ⟨h4, 0, none⟩) (show h4 < _ by omega)).trans c4
  have c6 := (hb10.cell (p := ⟨h6, 0, none⟩) (show h6 < _ by omega)).trans c6
  have c7 := (hb10.cell (p := ⟨h7, 0, none⟩) (show h7 < _ by omega)).trans c7
  have c8 := (hb10.cell (p := ⟨h8, 0, none⟩) (show h8 < _ by omega)).trans c8
  have c9 := (hb10.cell (p := ⟨h9, 0, none⟩) (show h9 < _ by omega)).trans c9
  go_wp2_with fail
  (with_reducible refine (ruleT_any 64 w10).mono ?_)
  rintro e w11 ⟨h12, rfl, hl12, hu12, c12, hb11⟩
  have z11 := hb11.size
  have b11 : Below w.heap.size w w11 := b10.trans (hb11.mono (by have := b10.size; omega))
  have c0 := (hb11.cell (p := ⟨h0, 0, none⟩) (show h0 < _ by omega)).trans c0
  have c1 := (hb11.cell (p := ⟨h1, 0, none⟩) (show h1 < _ by omega)).trans c1
  have c2 := (hb11.cell (p := ⟨h2, 0, none⟩) (show h2 < _ by omega)).trans c2
  have c3 := (hb11.cell (p := ⟨h3, 0, none⟩) (show h3 < _ by omega)).trans c3
  have c4 := (hb11.cell (p := ⟨h4, 0, none⟩) (show h4 < _ by omega)).trans c4
  have c6 := (hb11.cell (p := ⟨h6, 0, none⟩) (show h6 < _ by omega)).trans c6
  have c7 := (hb11.cell (p := ⟨h7, 0, none⟩) (show h7 < _ by omega)).trans c7
  have c8 := (hb11.cell (p := ⟨h8, 0, none⟩) (show h8 < _ by omega)).trans c8
  have c9 := (hb11.cell (p := ⟨h9, 0, none⟩) (show h9 < _ by omega)).trans c9
  have c10 := (hb11.cell (p := ⟨h10, 0, none⟩) (show h10 < _ by omega)).trans c10
  go_wp2_with fail
  go_ret
  have z : w11.heap.size < (w11.alloc (.cells #[.int .i64 2, .func (.func 66) #[] #[.pointer (some ⟨h0, 0, none⟩)], .int .i64 2, .func (.func 66) #[] #[.pointer (some ⟨h1, 0, none⟩)], .int .i64 2, .func (.func 66) #[] #[.pointer (some ⟨h2, 0, none⟩)], .int .i64 2, .func (.func 66) #[] #[.pointer (some ⟨h3, 0, none⟩)], .int .i64 2, .func (.func 66) #[] #[.pointer (some ⟨h4, 0, none⟩)], .int .i64 2, .nilFunc, .int .i64 1, .func (.func 67) #[] #[.pointer (some ⟨h6, 0, none⟩)], .int .i64 1, .func (.func 67) #[] #[.pointer (some ⟨h7, 0, none⟩)], .int .i64 1, .func (.func 68) #[] #[.pointer (some ⟨h8, 0, none⟩)], .int .i64 1, .func (.func 68) #[] #[.pointer (some ⟨h9, 0, none⟩)], .int .i64 1, .func (.func 68) #[] #[.pointer (some ⟨h10, 0, none⟩)], .int .i64 2, .func (.func 63) #[] #[], .int .i64 1, .func (.func 68) #[] #[.pointer (some ⟨h12, 0, none⟩)], .int .i64 1, .nilFunc] 72)).heap.size := by simp
  have bA : Below w11.heap.size w11 (w11.alloc (.cells #[.int .i64 2, .func (.func 66) #[] #[.pointer (some ⟨h0, 0, none⟩)], .int .i64 2, .func (.func 66) #[] #[.pointer (some ⟨h1, 0, none⟩)], .int .i64 2, .func (.func 66) #[] #[.pointer (some ⟨h2, 0, none⟩)], .int .i64 2, .func (.func 66) #[] #[.pointer (some ⟨h3, 0, none⟩)], .int .i64 2, .func (.func 66) #[] #[.pointer (some ⟨h4, 0, none⟩)], .int .i64 2, .nilFunc, .int .i64 1, .func (.func 67) #[] #[.pointer (some ⟨h6, 0, none⟩)], .int .i64 1, .func (.func 67) #[] #[.pointer (some ⟨h7, 0, none⟩)], .int .i64 1, .func (.func 68) #[] #[.pointer (some ⟨h8, 0, none⟩)], .int .i64 1, .func (.func 68) #[] #[.pointer (some ⟨h9, 0, none⟩)], .int .i64 1, .func (.func 68) #[] #[.pointer (some ⟨h10, 0, none⟩)], .int .i64 2, .func (.func 63) #[] #[], .int .i64 1, .func (.func 68) #[] #[.pointer (some ⟨h12, 0, none⟩)], .int .i64 1, .nilFunc] 72)) := (Below.refl _ _).alloc (Nat.le_refl _) _
  refine ⟨w11.heap.size, h0, h1, h2, h3, h4, h6, h7, h8, h9, h10, h12, rfl, ⟨D.Blk.new _ _ _, (bA.cell (p := ⟨h0, 0, none⟩) (show h0 < _ by omega)).trans c0, (bA.cell (p := ⟨h1, 0, none⟩) (show h1 < _ by omega)).trans c1, (bA.cell (p := ⟨h2, 0, none⟩) (show h2 < _ by omega)).trans c2, (bA.cell (p := ⟨h3, 0, none⟩) (show h3 < _ by omega)).trans c3, (bA.cell (p := ⟨h4, 0, none⟩) (show h4 < _ by omega)).trans c4, (bA.cell (p := ⟨h6, 0, none⟩) (show h6 < _ by omega)).trans c6, (bA.cell (p := ⟨h7, 0, none⟩) (show h7 < _ by omega)).trans c7, (bA.cell (p := ⟨h8, 0, none⟩) (show h8 < _ by omega)).trans c8, (bA.cell (p := ⟨h9, 0, none⟩) (show h9 < _ by omega)).trans c9, (bA.cell (p := ⟨h10, 0, none⟩) (show h10 < _ by omega)).trans c10, (bA.cell (p := ⟨h12, 0, none⟩) (show h12 < _ by omega)).trans c12⟩, z, by omega, by omega, by omega, by omega, by omega, by omega, by omega, by omega, by omega, by omega, by omega, b11.trans (bA.mono (by have := b11.size; omega))⟩
def ar (p : Int) : Int := if p = 0 then 2 else if p = 1 then 2 else if p = 2 then 2 else if p = 3 then 2 else if p = 4 then 2 else if p = 5 then 2 else if p = 6 then 1 else if p = 7 then 1 else if p = 8 then 1 else if p = 9 then 1 else if p = 10 then 1 else if p = 11 then 2 else if p = 12 then 1 else if p = 13 then 1 else -1
theorem ar_out {p : Int} (h : ¬ (0 ≤ p ∧ p ≤ 13)) : ar p = -1 := by
  unfold ar
  repeat (rw [if_neg (by omega)])
theorem sprimN_a (w : World) : Calls Try.prog 30 #[] w fun e w' => ∃ (A : Option Addr) (c : Nat), e = .returned (.slice A 14 c) ∧ Below w.heap.size w w' :=
  (sprimN_any w).mono fun _ _ ⟨A, c, he, _, hb⟩ => ⟨A, c, he, hb⟩

set_option maxRecDepth 100000 in
set_option maxHeartbeats 4000000 in
theorem implAr_any (p : Int) (w : World) : Calls Try.prog 25 #[.int .i64 p] w fun e w' => e = .returned (.int .i64 (ar p)) ∧ Below w.heap.size w w' := by
  by_cases h : 0 ≤ p ∧ p ≤ 13
  · have hc : p = 0 ∨ p = 1 ∨ p = 2 ∨ p = 3 ∨ p = 4 ∨ p = 5 ∨ p = 6 ∨ p = 7 ∨ p = 8 ∨ p = 9 ∨ p = 10 ∨ p = 11 ∨ p = 12 ∨ p = 13 := by omega
    rcases hc with rfl | rfl | rfl | rfl | rfl | rfl | rfl | rfl | rfl | rfl | rfl | rfl | rfl | rfl
    · go_enter Try.func25, Try.ntmps25
      go_wp2_with fail
      (with_reducible refine (primRules_any w).mono ?_)
      rintro e w1 ⟨g, h0, h1, h2, h3, h4, h6, h7, h8, h9, h10, h12, rfl, HR, hg, -, -, -, -, -, -, -, -, -, -, -, hb1⟩
      have c0 : w1.cell? ⟨g, 0, none⟩ = some (.int .i64 2) := HR.row.cell 0
      clear HR
      go_wp2_with fail
      go_ret
      exact ⟨rfl, hb1⟩
    · go_enter Try.func25, Try.ntmps25
      go_wp2_with fail
      (with_reducible refine (primRules_any w).mono ?_)
      rintro e w1 ⟨g, h0, h1, h2, h3, h4, h6, h7, h8, h9, h10, h12, rfl, HR, hg, -, -, -, -, -, -, -, -, -, -, -, hb1⟩
      have c0 : w1.cell? ⟨g, 2, none⟩ = some (.int .i64 2) := HR.row.cell 2
      clear HR
      go_wp2_with fail
      go_ret
      exact ⟨rfl, hb1⟩
    · go_enter Try.func25, Try.ntmps25
      go_wp2_with fail
      (with_reducible refine (primRules_any w).mono ?_)
      rintro e w1 ⟨g, h0, h1, h2, h3, h4, h6, h7, h8, h9, h10, h12, rfl, HR, hg, -, -, -, -, -, -, -, -, -, -, -, hb1⟩
      have c0 : w1.cell? ⟨g, 4, none⟩ = some (.int .i64 2) := HR.row.cell 4
      clear HR
      go_wp2_with fail
      go_ret
      exact ⟨rfl, hb1⟩
    · go_enter Try.func25, Try.ntmps25
      go_wp2_with fail
      (with_reducible refine (primRules_any w).mono ?_)
      rintro e w1 ⟨g, h0, h1, h2, h3, h4, h6, h7, h8, h9, h10, h12, rfl, HR, hg, -, -, -, -, -, -, -, -, -, -, -, hb1⟩
      have c0 : w1.cell? ⟨g, 6, none⟩ = some (.int .i64 2) := HR.row.cell 6
      clear HR
      go_wp2_with fail
      go_ret
      exact ⟨rfl, hb1⟩
    · go_enter Try.func25, Try.ntmps25
      go_wp2_with fail
      (with_reducible refine (primRules_any w).mono ?_)
      rintro e w1 ⟨g, h0, h1, h2, h3, h4, h6, h7, h8, h9, h10, h12, rfl, HR, hg, -, -, -, -, -, -, -, -, -, -, -, hb1⟩
      have c0 : w1.cell? ⟨g, 8, none⟩ = some (.int .i64 2) := HR.row.cell 8
      clear HR
      go_wp2_with fail
      go_ret
      exact ⟨rfl, hb1⟩
    · go_enter Try.func25, Try.ntmps25
      go_wp2_with fail
      (with_reducible refine (primRules_any w).mono ?_)
      rintro e w1 ⟨g, h0, h1, h2, h3, h4, h6, h7, h8, h9, h10, h12, rfl, HR, hg, -, -, -, -, -, -, -, -, -, -, -, hb1⟩
      have c0 : w1.cell? ⟨g, 10, none⟩ = some (.int .i64 2) := HR.row.cell 10
      clear HR
      go_wp2_with fail
      go_ret
      exact ⟨rfl, hb1⟩
    · go_enter Try.func25, Try.ntmps25
      go_wp2_with fail
      (with_reducible refine (primRules_any w).mono ?_)
      rintro e w1 ⟨g, h0, h1, h2, h3, h4, h6, h7, h8, h9, h10, h12, rfl, HR, hg, -, -, -, -, -, -, -, -, -, -, -, hb1⟩
      have c0 : w1.cell? ⟨g, 12, none⟩ = some (.int .i64 1) := HR.row.cell 12
      clear HR
      go_wp2_with fail
      go_ret
      exact ⟨rfl, hb1⟩
    · go_enter Try.func25, Try.ntmps25
      go_wp2_with fail
      (with_reducible refine (primRules_any w).mono ?_)
      rintro e w1 ⟨g, h0, h1, h2, h3, h4, h6, h7, h8, h9, h10, h12, rfl, HR, hg, -, -, -, -, -, -, -, -, -, -, -, hb1⟩
      have c0 : w1.cell? ⟨g, 14, none⟩ = some (.int .i64 1) := HR.row.cell 14
      clear HR
      go_wp2_with fail
      go_ret
      exact ⟨rfl, hb1⟩
    · go_enter Try.func25, Try.ntmps25
      go_wp2_with fail
      (with_reducible refine (primRules_any w).mono ?_)
      rintro e w1 ⟨g, h0, h1, h2, h3, h4, h6, h7, h8, h9, h10, h12, rfl, HR, hg, -, -, -, -, -, -, -, -, -, -, -, hb1⟩
      have c0 : w1.cell? ⟨g, 16, none⟩ = some (.int .i64 1) := HR.row.cell 16
      clear HR
      go_wp2_with fail
      go_ret
      exact ⟨rfl, hb1⟩
    · go_enter Try.func25, Try.ntmps25
      go_wp2_with fail
      (with_reducible refine (primRules_any w).mono ?_)
      rintro e w1 ⟨g, h0, h1, h2, h3, h4, h6, h7, h8, h9, h10, h12, rfl, HR, hg, -, -, -, -, -, -, -, -, -, -, -, hb1⟩
      have c0 : w1.cell? ⟨g, 18, none⟩ = some (.int .i64 1) := HR.row.cell 18
      clear HR
      go_wp2_with fail
      go_ret
      exact ⟨rfl, hb1⟩
    · go_enter Try.func25, Try.ntmps25
      go_wp2_with fail
      (with_reducible refine (primRules_any w).mono ?_)
      rintro e w1 ⟨g, h0, h1, h2, h3, h4, h6, h7, h8, h9, h10, h12, rfl, HR, hg, -, -, -, -, -, -, -, -, -, -, -, hb1⟩
      have c0 : w1.cell? ⟨g, 20, none⟩ = some (.int .i64 1) := HR.row.cell 20
      clear HR
      go_wp2_with fail
      go_ret
      exact ⟨rfl, hb1⟩
    · go_enter Try.func25, Try.ntmps25
      go_wp2_with fail
      (with_reducible refine (primRules_any w).mono ?_)
      rintro e w1 ⟨g, h0, h1, h2, h3, h4, h6, h7, h8, h9, h10, h12, rfl, HR, hg, -, -, -, -, -, -, -, -, -, -, -, hb1⟩
      have c0 : w1.cell? ⟨g, 22, none⟩ = some (.int .i64 2) := HR.row.cell 22
      clear HR
      go_wp2_with fail
      go_ret
      exact ⟨rfl, hb1⟩
    · go_enter Try.func25, Try.ntmps25
      go_wp2_with fail
      (with_reducible refine (primRules_any w).mono ?_)
      rintro e w1 ⟨g, h0, h1, h2, h3, h4, h6, h7, h8, h9, h10, h12, rfl, HR, hg, -, -, -, -, -, -, -, -, -, -, -, hb1⟩
      have c0 : w1.cell? ⟨g, 24, none⟩ = some (.int .i64 1) := HR.row.cell 24
      clear HR
      go_wp2_with fail
      go_ret
      exact ⟨rfl, hb1⟩
    · go_enter Try.func25, Try.ntmps25
      go_wp2_with fail
      (with_reducible refine (primRules_any w).mono ?_)
      rintro e w1 ⟨g, h0, h1, h2, h3, h4, h6, h7, h8, h9, h10, h12, rfl, HR, hg, -, -, -, -, -, -, -, -, -, -, -, hb1⟩
      have c0 : w1.cell? ⟨g, 26, none⟩ = some (.int .i64 1) := HR.row.cell 26
      clear HR
      go_wp2_with fail
      go_ret
      exact ⟨rfl, hb1⟩
  · have HQ := Lib.hid (ar_out h)
    by_cases h0 : p < 0
    · have g0 : decide (p < 0) = true := decide_eq_true h0
      clear h
      go_enter Try.func25, Try.ntmps25
      go_wp2_with fail
      (with_reducible refine (primRules_any w).mono ?_)
      rintro e w1 ⟨g, h0, h1, h2, h3, h4, h6, h7, h8, h9, h10, h12, rfl, HR, hg, -, -, -, -, -, -, -, -, -, -, -, hb1⟩
      go_wp2_with fail
      go_ret
      exact ⟨ret_int HQ.out.symm, hb1⟩
    · have h1 : p ≥ 14 := by omega
      have h2 : (14 : Int) ≤ p := h1
      clear h
      go_enter Try.func25, Try.ntmps25
      go_wp2_with fail
      (with_reducible refine (primRules_any w).mono ?_)
      rintro e w1 ⟨g, h0, h1, h2, h3, h4, h6, h7, h8, h9, h10, h12, rfl, HR, hg, -, -, -, -, -, -, -, -, -, -, -, hb1⟩
      go_wp2_with fail
      go_ret
      exact ⟨ret_int HQ.out.symm, hb1⟩

set_option maxRecDepth 100000 in
set_option maxHeartbeats 4000000 in
theorem specAr_any (p : Int) (w : World) : Calls Try.prog 15 #[.int .i64 p] w fun e w' => e = .returned (.int .i64 (ar p)) ∧ Below w.heap.size w w' := by
  obtain ⟨X, hX⟩ : ∃ X, X = decide (0 ≤ p ∧ p ≤ 13) := ⟨_, rfl⟩
  have HI : Hid (decide (0 ≤ p ∧ p ≤ 13) = X) := hX.symm
  cases X
  · have h : ¬ (0 ≤ p ∧ p ≤ 13) := of_decide_eq_false hX.symm
    have HQ := Lib.hid (ar_out h)
    clear h hX
    go_enter Try.func15, Try.ntmps15
    go_wp2_with fail
    (with_reducible refine (sprimN_a _).mono ?_)
    rintro e w1 ⟨A1, c1, rfl, hb1⟩
    go_wp2_with fail
    (with_reducible refine (l1In_any _ _ _ _).mono ?_)
    rintro e w2 ⟨rfl, rfl⟩
    rw [HI.out]
    go_wp2_with fail
    go_ret
    exact ⟨ret_int HQ.out.symm, hb1⟩
  · have h : 0 ≤ p ∧ p ≤ 13 := of_decide_eq_true hX.symm
    clear hX HI
    have hc : p = 0 ∨ p = 1 ∨ p = 2 ∨ p = 3 ∨ p = 4 ∨ p = 5 ∨ p = 6 ∨ p = 7 ∨ p = 8 ∨ p = 9 ∨ p = 10 ∨ p = 11 ∨ p = 12 ∨ p = 13 := by omega
    clear h
    rcases hc with rfl | rfl | rfl | rfl | rfl | rfl | rfl | rfl | rfl | rfl | rfl | rfl | rfl | rfl
    · go_enter Try.func15, Try.ntmps15
      go_wp2_with fail
      (with_reducible refine (sprimN_a _).mono ?_)
      rintro e w1 ⟨A1, c1, rfl, hb1⟩
      go_wp2_with fail
      (with_reducible refine (l1In_any _ _ _ _).mono ?_)
      rintro e w2 ⟨rfl, rfl⟩
      go_wp2_with fail
      go_ret
      exact ⟨rfl, hb1.trans ((Below.refl _ _).alloc (Nat.le_refl _) _ |>.mono (by have := hb1.size; omega))⟩
    · go_enter Try.func15, Try.ntmps15
      go_wp2_with fail
      (with_reducible refine (sprimN_a _).mono ?_)
      rintro e w1 ⟨A1, c1, rfl, hb1⟩
      go_wp2_with fail
      (with_reducible refine (l1In_any _ _ _ _).mono ?_)
      rintro e w2 ⟨rfl, rfl⟩
      go_wp2_with fail
      go_ret
      exact ⟨rfl, hb1.trans ((Below.refl _ _).alloc (Nat.le_refl _) _ |>.mono (by have := hb1.size; omega))⟩
    · go_enter Try.func15, Try.ntmps15
      go_wp2_with fail
      (with_reducible refine (sprimN_a _).mono ?_)
      rintro e w1 ⟨A1, c1, rfl, hb1⟩
      go_wp2_with fail
      (with_reducible refine (l1In_any _ _ _ _).mono ?_)
      rintro e w2 ⟨rfl, rfl⟩
      go_wp2_with fail
      go_ret
      exact ⟨rfl, hb1.trans ((Below.refl _ _).alloc (Nat.le_refl _) _ |>.mono (by have := hb1.size; omega))⟩
    · go_enter Try.func15, Try.ntmps15
      go_wp2_with fail
      (with_reducible refine (sprimN_a _).mono ?_)
      rintro e w1 ⟨A1, c1, rfl, hb1⟩
      go_wp2_with fail
      (with_reducible refine (l1In_any _ _ _ _).mono ?_)
      rintro e w2 ⟨rfl, rfl⟩
      go_wp2_with fail
      go_ret
      exact ⟨rfl, hb1.trans ((Below.refl _ _).alloc (Nat.le_refl _) _ |>.mono (by have := hb1.size; omega))⟩
    · go_enter Try.func15, Try.ntmps15
      go_wp2_with fail
      (with_reducible refine (sprimN_a _).mono ?_)
      rintro e w1 ⟨A1, c1, rfl, hb1⟩
      go_wp2_with fail
      (with_reducible refine (l1In_any _ _ _ _).mono ?_)
      rintro e w2 ⟨rfl, rfl⟩
      go_wp2_with fail
      go_ret
      exact ⟨rfl, hb1.trans ((Below.refl _ _).alloc (Nat.le_refl _) _ |>.mono (by have := hb1.size; omega))⟩
    · go_enter Try.func15, Try.ntmps15
      go_wp2_with fail
      (with_reducible refine (sprimN_a _).mono ?_)
      rintro e w1 ⟨A1, c1, rfl, hb1⟩
      go_wp2_with fail
      (with_reducible refine (l1In_any _ _ _ _).mono ?_)
      rintro e w2 ⟨rfl, rfl⟩
      go_wp2_with fail
      go_ret
      exact ⟨rfl, hb1.trans ((Below.refl _ _).alloc (Nat.le_refl _) _ |>.mono (by have := hb1.size; omega))⟩
    · go_enter Try.func15, Try.ntmps15
      go_wp2_with fail
      (with_reducible refine (sprimN_a _).mono ?_)
      rintro e w1 ⟨A1, c1, rfl, hb1⟩
      go_wp2_with fail
      (with_reducible refine (l1In_any _ _ _ _).mono ?_)
      rintro e w2 ⟨rfl, rfl⟩
      go_wp2_with fail
      go_ret
      exact ⟨rfl, hb1.trans ((Below.refl _ _).alloc (Nat.le_refl _) _ |>.mono (by have := hb1.size; omega))⟩
    · go_enter Try.func15, Try.ntmps15
      go_wp2_with fail
      (with_reducible refine (sprimN_a _).mono ?_)
      rintro e w1 ⟨A1, c1, rfl, hb1⟩
      go_wp2_with fail
      (with_reducible refine (l1In_any _ _ _ _).mono ?_)
      rintro e w2 ⟨rfl, rfl⟩
      go_wp2_with fail
      go_ret
      exact ⟨rfl, hb1.trans ((Below.refl _ _).alloc (Nat.le_refl _) _ |>.mono (by have := hb1.size; omega))⟩
    · go_enter Try.func15, Try.ntmps15
      go_wp2_with fail
      (with_reducible refine (sprimN_a _).mono ?_)
      rintro e w1 ⟨A1, c1, rfl, hb1⟩
      go_wp2_with fail
      (with_reducible refine (l1In_any _ _ _ _).mono ?_)
      rintro e w2 ⟨rfl, rfl⟩
      go_wp2_with fail
      go_ret
      exact ⟨rfl, hb1.trans ((Below.refl _ _).alloc (Nat.le_refl _) _ |>.mono (by have := hb1.size; omega))⟩
    · go_enter Try.func15, Try.ntmps15
      go_wp2_with fail
      (with_reducible refine (sprimN_a _).mono ?_)
      rintro e w1 ⟨A1, c1, rfl, hb1⟩
      go_wp2_with fail
      (with_reducible refine (l1In_any _ _ _ _).mono ?_)
      rintro e w2 ⟨rfl, rfl⟩
      go_wp2_with fail
      go_ret
      exact ⟨rfl, hb1.trans ((Below.refl _ _).alloc (Nat.le_refl _) _ |>.mono (by have := hb1.size; omega))⟩
    · go_enter Try.func15, Try.ntmps15
      go_wp2_with fail
      (with_reducible refine (sprimN_a _).mono ?_)
      rintro e w1 ⟨A1, c1, rfl, hb1⟩
      go_wp2_with fail
      (with_reducible refine (l1In_any _ _ _ _).mono ?_)
      rintro e w2 ⟨rfl, rfl⟩
      go_wp2_with fail
      go_ret
      exact ⟨rfl, hb1.trans ((Below.refl _ _).alloc (Nat.le_refl _) _ |>.mono (by have := hb1.size; omega))⟩
    · go_enter Try.func15, Try.ntmps15
      go_wp2_with fail
      (with_reducible refine (sprimN_a _).mono ?_)
      rintro e w1 ⟨A1, c1, rfl, hb1⟩
      go_wp2_with fail
      (with_reducible refine (l1In_any _ _ _ _).mono ?_)
      rintro e w2 ⟨rfl, rfl⟩
      go_wp2_with fail
      go_ret
      exact ⟨rfl, hb1.trans ((Below.refl _ _).alloc (Nat.le_refl _) _ |>.mono (by have := hb1.size; omega))⟩
    · go_enter Try.func15, Try.ntmps15
      go_wp2_with fail
      (with_reducible refine (sprimN_a _).mono ?_)
      rintro e w1 ⟨A1, c1, rfl, hb1⟩
      go_wp2_with fail
      (with_reducible refine (l1In_any _ _ _ _).mono ?_)
      rintro e w2 ⟨rfl, rfl⟩
      go_wp2_with fail
      go_ret
      exact ⟨rfl, hb1.trans ((Below.refl _ _).alloc (Nat.le_refl _) _ |>.mono (by have := hb1.size; omega))⟩
    · go_enter Try.func15, Try.ntmps15
      go_wp2_with fail
      (with_reducible refine (sprimN_a _).mono ?_)
      rintro e w1 ⟨A1, c1, rfl, hb1⟩
      go_wp2_with fail
      (with_reducible refine (l1In_any _ _ _ _).mono ?_)
      rintro e w2 ⟨rfl, rfl⟩
      go_wp2_with fail
      go_ret
      exact ⟨rfl, hb1.trans ((Below.refl _ _).alloc (Nat.le_refl _) _ |>.mono (by have := hb1.size; omega))⟩
end Go.Proofs.Ytnldlbglgalbaab
