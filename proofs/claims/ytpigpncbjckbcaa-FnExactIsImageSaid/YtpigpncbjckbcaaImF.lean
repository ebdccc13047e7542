/-
  What an instruction takes and leaves (written by gen/imf.py).
-/
import Derived.Test.YtpigpncbjckbcaaRIm
import Derived.Test.YtpigpncbjckbcaaNear
import Derived.Deep.DeepCutAuto
namespace Go.Proofs.Ytpigpncbjckbcaa
open Go.RowKit

/-- What an instruction takes and leaves, by its operation, its number and the captures of the code that it names. -/
def effO (o i c : Int) : Int × Int :=
  if o ≤ 6 then (0, 1) else if o ≤ 8 then (1, 1) else if o = 11 ∨ 18 ≤ o then (c, 1) else if o = 12 then (i + 1, 1) else if o = 13 then (i + 1, 0)
  else if o = 14 ∨ (o = 16 ∨ o = 17) then (1, 0) else (0, 0)
def Cd.none : Cd := ⟨0, 0, 0, Option.none, 0, []⟩
/-- The code at an index. -/
def Cd.at' (cs : List Cd) (i : Int) : Cd := cs.getD i.toNat Cd.none
theorem Cd.at'_get {cs : List Cd} {j : Nat} (hl : j < cs.length) : Cd.at' cs (j : Int) = cs[j] := by unfold Cd.at'; simp [List.getD, hl]
def Nt.eff (cs : List Cd) (x : Nt) : Int × Int := effO x.o x.i (Cd.at' cs x.i).c

set_option maxRecDepth 100000 in
set_option maxHeartbeats 1000000 in
theorem implEff_1 (m : Im) (i : Int) (t : D) (B : Nat) (w : World) (_hi0 : 0 ≤ i) (_hi1 : i ≤ 4000) (_hin : Im.E.In w B m) (_hB : B ≤ w.heap.size) :
    Calls Try.prog 50 #[Im.val m, .agg #[.int .i64 1, .int .i64 i, .int .i64 t.k, .int .i64 t.n, .string t.t, .slice t.A t.l.length t.c]] w fun e w' => e = .returned (.tuple #[.int .i64 (0), .int .i64 (1)]) ∧ Below w.heap.size w w' := by
  obtain ⟨x, hx⟩ : ∃ x : Nt, x = ⟨1, i, t⟩ := ⟨_, rfl⟩
  obtain ⟨W1, hW1⟩ : ∃ W1, W1 = (w.alloc (.cells #[.slice m.lA m.l.length m.lC, .int .i64 m.m] 31)).alloc (.cells #[.int .i64 1, .int .i64 i, .int .i64 t.k, .int .i64 t.n, .string t.t, .slice t.A t.l.length t.c] 53) := ⟨_, rfl⟩
  have b1 : Below w.heap.size w W1 := by rw [hW1]; exact ((Below.refl _ _).alloc (Nat.le_refl _) _).alloc (by simp) _
  have z1 : w.heap.size + 2 ≤ W1.heap.size := by rw [hW1]; simp
  have xa : Im.Box W1 w.heap.size m := by rw [hW1]; exact (Im.Box.new w m _).below ((Below.refl (w.heap.size + 1) _).alloc (by simp) _) (by omega)
  have xb : Nt.Box W1 (w.heap.size + 1) ⟨1, i, t⟩ := by rw [hW1]; have := Nt.Box.new (w.alloc (.cells #[.slice m.lA m.l.length m.lC, .int .i64 m.m] 31)) ⟨1, i, t⟩ 53; simpa using this
  clear hx x
  unfold Im.val
  obtain ⟨a0, a1⟩ := xa
  obtain ⟨d0, d1, d2, d3, d4, d5⟩ := xb
  go_enter Try.func50, Try.ntmps50
  go_upto_region 1 with fail
  rw [← hW1]
  clear hW1
  go_wp2_with fail
  go_ret2
  exact ⟨rfl, b1⟩

set_option maxRecDepth 100000 in
set_option maxHeartbeats 1000000 in
theorem implEff_2 (m : Im) (i : Int) (t : D) (B : Nat) (w : World) (_hi0 : 0 ≤ i) (_hi1 : i ≤ 4000) (_hin : Im.E.In w B m) (_hB : B ≤ w.heap.size) :
    Calls Try.prog 50 #[Im.val m, .agg #[.int .i64 2, .int .i64 i, .int .i64 t.k, .int .i64 t.n, .string t.t, .slice t.A t.l.length t.c]] w fun e w' => e = .returned (.tuple #[.int .i64 (0), .int .i64 (1)]) ∧ Below w.heap.size w w' := by
  obtain ⟨x, hx⟩ : ∃ x : Nt, x = ⟨2, i, t⟩ := ⟨_, rfl⟩
  obtain ⟨W1, hW1⟩ : ∃ W1, W1 = (w.alloc (.cells #[.slice m.lA m.l.length m.lC, .int .i64 m.m] 31)).alloc (.cells #[.int .i64 2, .int .i64 i, .int .i64 t.k, .int .i64 t.n, .string t.t, .slice t.A t.l.length t.c] 53) := ⟨_, rfl⟩
  have b1 : Below w.heap.size w W1 := by rw [hW1]; exact ((Below.refl _ _).alloc (Nat.le_refl _) _).alloc (by simp) _
  have z1 : w.heap.size + 2 ≤ W1.heap.size := by rw [hW1]; simp
  have xa : Im.Box W1 w.heap.size m := by rw [hW1]; exact (Im.Box.new w m _).below ((Below.refl (w.heap.size + 1) _).alloc (by simp) _) (by omega)
  have xb : Nt.Box W1 (w.heap.size + 1) ⟨2, i, t⟩ := by rw [hW1]; have := Nt.Box.new (w.alloc (.cells #[.slice m.lA m.l.length m.lC, .int .i64 m.m] 31)) ⟨2, i, t⟩ 53; simpa using this
  clear hx x
  unfold Im.val
  obtain ⟨a0, a1⟩ := xa
  obtain ⟨d0, d1, d2, d3, d4, d5⟩ := xb
  go_enter Try.func50, Try.ntmps50
  go_upto_region 1 with fail
  rw [← hW1]
  clear hW1
  go_wp2_with fail
  go_ret2
  exact ⟨rfl, b1⟩

set_option maxRecDepth 100000 in
set_option maxHeartbeats 1000000 in
theorem implEff_3 (m : Im) (i : Int) (t : D) (B : Nat) (w : World) (_hi0 : 0 ≤ i) (_hi1 : i ≤ 4000) (_hin : Im.E.In w B m) (_hB : B ≤ w.heap.size) :
    Calls Try.prog 50 #[Im.val m, .agg #[.int .i64 3, .int .i64 i, .int .i64 t.k, .int .i64 t.n, .string t.t, .slice t.A t.l.length t.c]] w fun e w' => e = .returned (.tuple #[.int .i64 (0), .int .i64 (1)]) ∧ Below w.heap.size w w' := by
  obtain ⟨x, hx⟩ : ∃ x : Nt, x = ⟨3, i, t⟩ := ⟨_, rfl⟩
  obtain ⟨W1, hW1⟩ : ∃ W1, W1 = (w.alloc (.cells #[.slice m.lA m.l.length m.lC, .int .i64 m.m] 31)).alloc (.cells #[.int .i64 3, .int .i64 i, .int .i64 t.k, .int .i64 t.n, .string t.t, .slice t.A t.l.length t.c] 53) := ⟨_, rfl⟩
  have b1 : Below w.heap.size w W1 := by rw [hW1]; exact ((Below.refl _ _).alloc (Nat.le_refl _) _).alloc (by simp) _
  have z1 : w.heap.size + 2 ≤ W1.heap.size := by rw [hW1]; simp
  have xa : Im.Box W1 w.heap.size m := by rw [hW1]; exact (Im.Box.new w m _).below ((Below.refl (w.heap.size + 1) _).alloc (by simp) _) (by omega)
  have xb : Nt.Box W1 (w.heap.size + 1) ⟨3, i, t⟩ := by rw [hW1]; have := Nt.Box.new (w.alloc (.cells #[.slice m.lA m.l.length m.lC, .int .i64 m.m] 31)) ⟨3, i, t⟩ 53; simpa using this
  clear hx x
  unfold Im.val
  obtain ⟨a0, a1⟩ := xa
  obtain ⟨d0, d1, d2, d3, d4, d5⟩ := xb
  go_enter Try.func50, Try.ntmps50
  go_upto_region 1 with fail
  rw [← hW1]
  clear hW1
  go_wp2_with fail
  go_ret2
  exact ⟨rfl, b1⟩

set_option maxRecDepth 100000 in
set_option maxHeartbeats 1000000 in
theorem implEff_4 (m : Im) (i : Int) (t : D) (B : Nat) (w : World) (_hi0 : 0 ≤ i) (_hi1 : i ≤ 4000) (_hin : Im.E.In w B m) (_hB : B ≤ w.heap.size) :
    Calls Try.prog 50 #[Im.val m, .agg #[.int .i64 4, .int .i64 i, .int .i64 t.k, .int .i64 t.n, .string t.t, .slice t.A t.l.length t.c]] w fun e w' => e = .returned (.tuple #[.int .i64 (0), .int .i64 (1)]) ∧ Below w.heap.size w w' := by
  obtain ⟨x, hx⟩ : ∃ x : Nt, x = ⟨4, i, t⟩ := ⟨_, rfl⟩
  obtain ⟨W1, hW1⟩ : ∃ W1, W1 = (w.alloc (.cells #[.slice m.lA m.l.length m.lC, .int .i64 m.m] 31)).alloc (.cells #[.int .i64 4, .int .i64 i, .int .i64 t.k, .int .i64 t.n, .string t.t, .slice t.A t.l.length t.c] 53) := ⟨_, rfl⟩
  have b1 : Below w.heap.size w W1 := by rw [hW1]; exact ((Below.refl _ _).alloc (Nat.le_refl _) _).alloc (by simp) _
  have z1 : w.heap.size + 2 ≤ W1.heap.size := by rw [hW1]; simp
  have xa : Im.Box W1 w.heap.size m := by rw [hW1]; exact (Im.Box.new w m _).below ((Below.refl (w.heap.size + 1) _).alloc (by simp) _) (by omega)
  have xb : Nt.Box W1 (w.heap.size + 1) ⟨4, i, t⟩ := by rw [hW1]; have := Nt.Box.new (w.alloc (.cells #[.slice m.lA m.l.length m.lC, .int .i64 m.m] 31)) ⟨4, i, t⟩ 53; simpa using this
  clear hx x
  unfold Im.val
  obtain ⟨a0, a1⟩ := xa
  obtain ⟨d0, d1, d2, d3, d4, d5⟩ := xb
  go_enter Try.func50, Try.ntmps50
  go_upto_region 1 with fail
  rw [← hW1]
  clear hW1
  go_wp2_with fail
  go_ret2
  exact ⟨rfl, b1⟩

set_option maxRecDepth 100000 in
set_option maxHeartbeats 1000000 in
theorem implEff_5 (m : Im) (i : Int) (t : D) (B : Nat) (w : World) (_hi0 : 0 ≤ i) (_hi1 : i ≤ 4000) (_hin : Im.E.In w B m) (_hB : B ≤ w.heap.size) :
    Calls Try.prog 50 #[Im.val m, .agg #[.int .i64 5, .int .i64 i, .int .i64 t.k, .int .i64 t.n, .string t.t, .slice t.A t.l.length t.c]] w fun e w' => e = .returned (.tuple #[.int .i64 (0), .int .i64 (1)]) ∧ Below w.heap.size w w' := by
  obtain ⟨x, hx⟩ : ∃ x : Nt, x = ⟨5, i, t⟩ := ⟨_, rfl⟩
  obtain ⟨W1, hW1⟩ : ∃ W1, W1 = (w.alloc (.cells #[.slice m.lA m.l.length m.lC, .int .i64 m.m] 31)).alloc (.cells #[.int .i64 5, .int .i64 i, .int .i64 t.k, .int .i64 t.n, .string t.t, .slice t.A t.l.length t.c] 53) := ⟨_, rfl⟩
  have b1 : Below w.heap.size w W1 := by rw [hW1]; exact ((Below.refl _ _).alloc (Nat.le_refl _) _).alloc (by simp) _
  have z1 : w.heap.size + 2 ≤ W1.heap.size := by rw [hW1]; simp
  have xa : Im.Box W1 w.heap.size m := by rw [hW1]; exact (Im.Box.new w m _).below ((Below.refl (w.heap.size + 1) _).alloc (by simp) _) (by omega)
  have xb : Nt.Box W1 (w.heap.size + 1) ⟨5, i, t⟩ := by rw [hW1]; have := Nt.Box.new (w.alloc (.cells #[.slice m.lA m.l.length m.lC, .int .i64 m.m] 31)) ⟨5, i, t⟩ 53; simpa using this
  clear hx x
  unfold Im.val
  obtain ⟨a0, a1⟩ := xa
  obtain ⟨d0, d1, d2, d3, d4, d5⟩ := xb
  go_enter Try.func50, Try.ntmps50
  go_upto_region 1 with fail
  rw [← hW1]
  clear hW1
  go_wp2_with fail
  go_ret2
  exact ⟨rfl, b1⟩

set_option maxRecDepth 100000 in
set_option maxHeartbeats 1000000 in
theorem implEff_6 (m : Im) (i : Int) (t : D) (B : Nat) (w : World) (_hi0 : 0 ≤ i) (_hi1 : i ≤ 4000) (_hin : Im.E.In w B m) (_hB : B ≤ w.heap.size) :
    Calls Try.prog 50 #[Im.val m, .agg #[.int .i64 6, .int .i64 i, .int .i64 t.k, .int .i64 t.n, .string t.t, .slice t.A t.l.length t.c]] w fun e w' => e = .returned (.tuple #[.int .i64 (0), .int .i64 (1)]) ∧ Below w.heap.size w w' := by
  obtain ⟨x, hx⟩ : ∃ x : Nt, x = ⟨6, i, t⟩ := ⟨_, rfl⟩
  obtain ⟨W1, hW1⟩ : ∃ W1, W1 = (w.alloc (.cells #[.slice m.lA m.l.length m.lC, .int .i64 m.m] 31)).alloc (.cells #[.int .i64 6, .int .i64 i, .int .i64 t.k, .int .i64 t.n, .string t.t, .slice t.A t.l.length t.c] 53) := ⟨_, rfl⟩
  have b1 : Below w.heap.size w W1 := by rw [hW1]; exact ((Below.refl _ _).alloc (Nat.le_refl _) _).alloc (by simp) _
  have z1 : w.heap.size + 2 ≤ W1.heap.size := by rw [hW1]; simp
  have xa : Im.Box W1 w.heap.size m := by rw [hW1]; exact (Im.Box.new w m _).below ((Below.refl (w.heap.size + 1) _).alloc (by simp) _) (by omega)
  have xb : Nt.Box W1 (w.heap.size + 1) ⟨6, i, t⟩ := by rw [hW1]; have := Nt.Box.new (w.alloc (.cells #[.slice m.lA m.l.length m.lC, .int .i64 m.m] 31)) ⟨6, i, t⟩ 53; simpa using this
  clear hx x
  unfold Im.val
  obtain ⟨a0, a1⟩ := xa
  obtain ⟨d0, d1, d2, d3, d4, d5⟩ := xb
  go_enter Try.func50, Try.ntmps50
  go_upto_region 1 with fail
  rw [← hW1]
  clear hW1
  go_wp2_with fail
  go_ret2
  exact ⟨rfl, b1⟩

set_option maxRecDepth 100000 in
set_option maxHeartbeats 1000000 in
theorem implEff_7 (m : Im) (i : Int) (t : D) (B : Nat) (w : World) (_hi0 : 0 ≤ i) (_hi1 : i ≤ 4000) (_hin : Im.E.In w B m) (_hB : B ≤ w.heap.size) :
    Calls Try.prog 50 #[Im.val m, .agg #[.int .i64 7, .int .i64 i, .int .i64 t.k, .int .i64 t.n, .string t.t, .slice t.A t.l.length t.c]] w fun e w' => e = .returned (.tuple #[.int .i64 (1), .int .i64 (1)]) ∧ Below w.heap.size w w' := by
  obtain ⟨x, hx⟩ : ∃ x : Nt, x = ⟨7, i, t⟩ := ⟨_, rfl⟩
  obtain ⟨W1, hW1⟩ : ∃ W1, W1 = (w.alloc (.cells #[.slice m.lA m.l.length m.lC, .int .i64 m.m] 31)).alloc (.cells #[.int .i64 7, .int .i64 i, .int .i64 t.k, .int .i64 t.n, .string t.t, .slice t.A t.l.length t.c] 53) := ⟨_, rfl⟩
  have b1 : Below w.heap.size w W1 := by rw [hW1]; exact ((Below.refl _ _).alloc (Nat.le_refl _) _).alloc (by simp) _
  have z1 : w.heap.size + 2 ≤ W1.heap.size := by rw [hW1]; simp
  have xa : Im.Box W1 w.heap.size m := by rw [hW1]; exact (Im.Box.new w m _).below ((Below.refl (w.heap.size + 1) _).alloc (by simp) _) (by omega)
  have xb : Nt.Box W1 (w.heap.size + 1) ⟨7, i, t⟩ := by rw [hW1]; have := Nt.Box.new (w.alloc (.cells #[.slice m.lA m.l.length m.lC, .int .i64 m.m] 31)) ⟨7, i, t⟩ 53; simpa using this
  clear hx x
  unfold Im.val
  obtain ⟨a0, a1⟩ := xa
  obtain ⟨d0, d1, d2, d3, d4, d5⟩ := xb
  go_enter Try.func50, Try.ntmps50
  go_upto_region 1 with fail
  rw [← hW1]
  clear hW1
  go_wp2_with fail
  go_ret2
  exact ⟨rfl, b1⟩

set_option maxRecDepth 100000 in
set_option maxHeartbeats 1000000 in
theorem implEff_8 (m : Im) (i : Int) (t : D) (B : Nat) (w : World) (_hi0 : 0 ≤ i) (_hi1 : i ≤ 4000) (_hin : Im.E.In w B m) (_hB : B ≤ w.heap.size) :
    Calls Try.prog 50 #[Im.val m, .agg #[.int .i64 8, .int .i64 i, .int .i64 t.k, .int .i64 t.n, .string t.t, .slice t.A t.l.length t.c]] w fun e w' => e = .returned (.tuple #[.int .i64 (1), .int .i64 (1)]) ∧ Below w.heap.size w w' := by
  obtain ⟨x, hx⟩ : ∃ x : Nt, x = ⟨8, i, t⟩ := ⟨_, rfl⟩
  obtain ⟨W1, hW1⟩ : ∃ W1, W1 = (w.alloc (.cells #[.slice m.lA m.l.length m.lC, .int .i64 m.m] 31)).alloc (.cells #[.int .i64 8, .int .i64 i, .int .i64 t.k, .int .i64 t.n, .string t.t, .slice t.A t.l.length t.c] 53) := ⟨_, rfl⟩
  have b1 : Below w.heap.size w W1 := by rw [hW1]; exact ((Below.refl _ _).alloc (Nat.le_refl _) _).alloc (by simp) _
  have z1 : w.heap.size + 2 ≤ W1.heap.size := by rw [hW1]; simp
  have xa : Im.Box W1 w.heap.size m := by rw [hW1]; exact (Im.Box.new w m _).below ((Below.refl (w.heap.size + 1) _).alloc (by simp) _) (by omega)
  have xb : Nt.Box W1 (w.heap.size + 1) ⟨8, i, t⟩ := by rw [hW1]; have := Nt.Box.new (w.alloc (.cells #[.slice m.lA m.l.length m.lC, .int .i64 m.m] 31)) ⟨8, i, t⟩ 53; simpa using this
  clear hx x
  unfold Im.val
  obtain ⟨a0, a1⟩ := xa
  obtain ⟨d0, d1, d2, d3, d4, d5⟩ := xb
  go_enter Try.func50, Try.ntmps50
  go_upto_region 1 with fail
  rw [← hW1]
  clear hW1
  go_wp2_with fail
  go_ret2
  exact ⟨rfl, b1⟩

set_option maxRecDepth 100000 in
set_option maxHeartbeats 1000000 in
theorem implEff_9 (m : Im) (i : Int) (t : D) (B : Nat) (w : World) (_hi0 : 0 ≤ i) (_hi1 : i ≤ 4000) (_hin : Im.E.In w B m) (_hB : B ≤ w.heap.size) :
    Calls Try.prog 50 #[Im.val m, .agg #[.int .i64 9, .int .i64 i, .int .i64 t.k, .int .i64 t.n, .string t.t, .slice t.A t.l.length t.c]] w fun e w' => e = .returned (.tuple #[.int .i64 (0), .int .i64 (0)]) ∧ Below w.heap.size w w' := by
  obtain ⟨x, hx⟩ : ∃ x : Nt, x = ⟨9, i, t⟩ := ⟨_, rfl⟩
  obtain ⟨W1, hW1⟩ : ∃ W1, W1 = (w.alloc (.cells #[.slice m.lA m.l.length m.lC, .int .i64 m.m] 31)).alloc (.cells #[.int .i64 9, .int .i64 i, .int .i64 t.k, .int .i64 t.n, .string t.t, .slice t.A t.l.length t.c] 53) := ⟨_, rfl⟩
  have b1 : Below w.heap.size w W1 := by rw [hW1]; exact ((Below.refl _ _).alloc (Nat.le_refl _) _).alloc (by simp) _
  have z1 : w.heap.size + 2 ≤ W1.heap.size := by rw [hW1]; simp
  have xa : Im.Box W1 w.heap.size m := by rw [hW1]; exact (Im.Box.new w m _).below ((Below.refl (w.heap.size + 1) _).alloc (by simp) _) (by omega)
  have xb : Nt.Box W1 (w.heap.size + 1) ⟨9, i, t⟩ := by rw [hW1]; have := Nt.Box.new (w.alloc (.cells #[.slice m.lA m.l.length m.lC, .int .i64 m.m] 31)) ⟨9, i, t⟩ 53; simpa using this
  clear hx x
  unfold Im.val
  obtain ⟨a0, a1⟩ := xa
  obtain ⟨d0, d1, d2, d3, d4, d5⟩ := xb
  go_enter Try.func50, Try.ntmps50
  go_upto_region 1 with fail
  rw [← hW1]
  clear hW1
  go_wp2_with fail
  go_ret2
  exact ⟨rfl, b1⟩

set_option maxRecDepth 100000 in
set_option maxHeartbeats 1000000 in
theorem implEff_10 (m : Im) (i : Int) (t : D) (B : Nat) (w : World) (_hi0 : 0 ≤ i) (_hi1 : i ≤ 4000) (_hin : Im.E.In w B m) (_hB : B ≤ w.heap.size) :
    Calls Try.prog 50 #[Im.val m, .agg #[.int .i64 10, .int .i64 i, .int .i64 t.k, .int .i64 t.n, .string t.t, .slice t.A t.l.length t.c]] w fun e w' => e = .returned (.tuple #[.int .i64 (0), .int .i64 (0)]) ∧ Below w.heap.size w w' := by
  obtain ⟨x, hx⟩ : ∃ x : Nt, x = ⟨10, i, t⟩ := ⟨_, rfl⟩
  obtain ⟨W1, hW1⟩ : ∃ W1, W1 = (w.alloc (.cells #[.slice m.lA m.l.length m.lC, .int .i64 m.m] 31)).alloc (.cells #[.int .i64 10, .int .i64 i, .int .i64 t.k, .int .i64 t.n, .string t.t, .slice t.A t.l.length t.c] 53) := ⟨_, rfl⟩
  have b1 : Below w.heap.size w W1 := by rw [hW1]; exact ((Below.refl _ _).alloc (Nat.le_refl _) _).alloc (by simp) _
  have z1 : w.heap.size + 2 ≤ W1.heap.size := by rw [hW1]; simp
  have xa : Im.Box W1 w.heap.size m := by rw [hW1]; exact (Im.Box.new w m _).below ((Below.refl (w.heap.size + 1) _).alloc (by simp) _) (by omega)
  have xb : Nt.Box W1 (w.heap.size + 1) ⟨10, i, t⟩ := by rw [hW1]; have := Nt.Box.new (w.alloc (.cells #[.slice m.lA m.l.length m.lC, .int .i64 m.m] 31)) ⟨10, i, t⟩ 53; simpa using this
  clear hx x
  unfold Im.val
  obtain ⟨a0, a1⟩ := xa
  obtain ⟨d0, d1, d2, d3, d4, d5⟩ := xb
  go_enter Try.func50, Try.ntmps50
  go_upto_region 1 with fail
  rw [← hW1]
  clear hW1
  go_wp2_with fail
  go_ret2
  exact ⟨rfl, b1⟩

set_option maxRecDepth 100000 in
set_option maxHeartbeats 1000000 in
theorem implEff_11 (m : Im) (i : Int) (t : D) (B : Nat) (w : World) (hi0 : 0 ≤ i) (hi1 : i ≤ 4000) (hl : i.toNat < m.l.length) (hin : Im.E.In w B m) (hB : B ≤ w.heap.size) :
    Calls Try.prog 50 #[Im.val m, .agg #[.int .i64 11, .int .i64 i, .int .i64 t.k, .int .i64 t.n, .string t.t, .slice t.A t.l.length t.c]] w fun e w' => e = .returned (.tuple #[.int .i64 ((Cd.at' m.l i).c), .int .i64 (1)]) ∧ Below w.heap.size w w' := by
  obtain ⟨x, hx⟩ : ∃ x : Nt, x = ⟨11, i, t⟩ := ⟨_, rfl⟩
  obtain ⟨W1, hW1⟩ : ∃ W1, W1 = (w.alloc (.cells #[.slice m.lA m.l.length m.lC, .int .i64 m.m] 31)).alloc (.cells #[.int .i64 11, .int .i64 i, .int .i64 t.k, .int .i64 t.n, .string t.t, .slice t.A t.l.length t.c] 53) := ⟨_, rfl⟩
  have b1 : Below w.heap.size w W1 := by rw [hW1]; exact ((Below.refl _ _).alloc (Nat.le_refl _) _).alloc (by simp) _
  have z1 : w.heap.size + 2 ≤ W1.heap.size := by rw [hW1]; simp
  have xa : Im.Box W1 w.heap.size m := by rw [hW1]; exact (Im.Box.new w m _).below ((Below.refl (w.heap.size + 1) _).alloc (by simp) _) (by omega)
  have xb : Nt.Box W1 (w.heap.size + 1) ⟨11, i, t⟩ := by rw [hW1]; have := Nt.Box.new (w.alloc (.cells #[.slice m.lA m.l.length m.lC, .int .i64 m.m] 31)) ⟨11, i, t⟩ 53; simpa using this
  clear hx x
  unfold Im.val
  obtain ⟨j, rfl⟩ : ∃ j : Nat, i = j := ⟨i.toNat, by omega⟩
  rw [Int.toNat_natCast] at hl
  have hcs := (Im.E_in (hin.below (b1.mono hB))).l
  obtain ⟨cb, co, eC, hblk, _, _, c2, _, _⟩ := Cd.at_ hcs (i := j) (x := m.l[j]) (List.getElem?_eq_getElem hl)
  rw [← Cd.at'_get hl] at c2
  obtain ⟨V, hV⟩ : ∃ V, V = (Cd.at' m.l (j : Int)).c := ⟨_, rfl⟩
  rw [← hV] at c2 ⊢
  clear hV
  obtain ⟨a0, a1⟩ := xa
  obtain ⟨d0, d1, d2, d3, d4, d5⟩ := xb
  rw [eC] at a0
  clear eC
  have lj : (j : Int) < (m.l.length : Int) := by omega
  have lb : cb < W1.heap.size := by omega
  go_enter Try.func50, Try.ntmps50
  go_upto_region 1 with fail
  rw [← hW1]
  clear hW1
  go_wp2_with fail
  go_ret2
  exact ⟨rfl, b1⟩

set_option maxRecDepth 100000 in
set_option maxHeartbeats 1000000 in
theorem implEff_12 (m : Im) (i : Int) (t : D) (B : Nat) (w : World) (hi0 : 0 ≤ i) (hi1 : i ≤ 4000) (_hin : Im.E.In w B m) (_hB : B ≤ w.heap.size) :
    Calls Try.prog 50 #[Im.val m, .agg #[.int .i64 12, .int .i64 i, .int .i64 t.k, .int .i64 t.n, .string t.t, .slice t.A t.l.length t.c]] w fun e w' => e = .returned (.tuple #[.int .i64 (i + 1), .int .i64 (1)]) ∧ Below w.heap.size w w' := by
  obtain ⟨x, hx⟩ : ∃ x : Nt, x = ⟨12, i, t⟩ := ⟨_, rfl⟩
  obtain ⟨W1, hW1⟩ : ∃ W1, W1 = (w.alloc (.cells #[.slice m.lA m.l.length m.lC, .int .i64 m.m] 31)).alloc (.cells #[.int .i64 12, .int .i64 i, .int .i64 t.k, .int .i64 t.n, .string t.t, .slice t.A t.l.length t.c] 53) := ⟨_, rfl⟩
  have b1 : Below w.heap.size w W1 := by rw [hW1]; exact ((Below.refl _ _).alloc (Nat.le_refl _) _).alloc (by simp) _
  have z1 : w.heap.size + 2 ≤ W1.heap.size := by rw [hW1]; simp
  have xa : Im.Box W1 w.heap.size m := by rw [hW1]; exact (Im.Box.new w m _).below ((Below.refl (w.heap.size + 1) _).alloc (by simp) _) (by omega)
  have xb : Nt.Box W1 (w.heap.size + 1) ⟨12, i, t⟩ := by rw [hW1]; have := Nt.Box.new (w.alloc (.cells #[.slice m.lA m.l.length m.lC, .int .i64 m.m] 31)) ⟨12, i, t⟩ 53; simpa using this
  clear hx x
  unfold Im.val
  obtain ⟨a0, a1⟩ := xa
  obtain ⟨d0, d1, d2, d3, d4, d5⟩ := xb
  go_enter Try.func50, Try.ntmps50
  go_upto_region 1 with fail
  rw [← hW1]
  clear hW1
  go_wp2_with fail
  go_ret2
  exact ⟨rfl, b1⟩

set_option maxRecDepth 100000 in
set_option maxHeartbeats 1000000 in
theorem implEff_13 (m : Im) (i : Int) (t : D) (B : Nat) (w : World) (hi0 : 0 ≤ i) (hi1 : i ≤ 4000) (_hin : Im.E.In w B m) (_hB : B ≤ w.heap.size) :
    Calls Try.prog 50 #[Im.val m, .agg #[.int .i64 13, .int .i64 i, .int .i64 t.k, .int .i64 t.n, .string t.t, .slice t.A t.l.length t.c]] w fun e w' => e = .returned (.tuple #[.int .i64 (i + 1), .int .i64 (0)]) ∧ Below w.heap.size w w' := by
  obtain ⟨x, hx⟩ : ∃ x : Nt, x = ⟨13, i, t⟩ := ⟨_, rfl⟩
  obtain ⟨W1, hW1⟩ : ∃ W1, W1 = (w.alloc (.cells #[.slice m.lA m.l.length m.lC, .int .i64 m.m] 31)).alloc (.cells #[.int .i64 13, .int .i64 i, .int .i64 t.k, .int .i64 t.n, .string t.t, .slice t.A t.l.length t.c] 53) := ⟨_, rfl⟩
  have b1 : Below w.heap.size w W1 := by rw [hW1]; exact ((Below.refl _ _).alloc (Nat.le_refl _) _).alloc (by simp) _
  have z1 : w.heap.size + 2 ≤ W1.heap.size := by rw [hW1]; simp
  have xa : Im.Box W1 w.heap.size m := by rw [hW1]; exact (Im.Box.new w m _).below ((Below.refl (w.heap.size + 1) _).alloc (by simp) _) (by omega)
  have xb : Nt.Box W1 (w.heap.size + 1) ⟨13, i, t⟩ := by rw [hW1]; have := Nt.Box.new (w.alloc (.cells #[.slice m.lA m.l.length m.lC, .int .i64 m.m] 31)) ⟨13, i, t⟩ 53; simpa using this
  clear hx x
  unfold Im.val
  obtain ⟨a0, a1⟩ := xa
  obtain ⟨d0, d1, d2, d3, d4, d5⟩ := xb
  go_enter Try.func50, Try.ntmps50
  go_upto_region 1 with fail
  rw [← hW1]
  clear hW1
  go_wp2_with fail
  go_ret2
  exact ⟨rfl, b1⟩

set_option maxRecDepth 100000 in
set_option maxHeartbeats 1000000 in
theorem implEff_14 (m : Im) (i : Int) (t : D) (B : Nat) (w : World) (_hi0 : 0 ≤ i) (_hi1 : i ≤ 4000) (_hin : Im.E.In w B m) (_hB : B ≤ w.heap.size) :
    Calls Try.prog 50 #[Im.val m, .agg #[.int .i64 14, .int .i64 i, .int .i64 t.k, .int .i64 t.n, .string t.t, .slice t.A t.l.length t.c]] w fun e w' => e = .returned (.tuple #[.int .i64 (1), .int .i64 (0)]) ∧ Below w.heap.size w w' := by
  obtain ⟨x, hx⟩ : ∃ x : Nt, x = ⟨14, i, t⟩ := ⟨_, rfl⟩
  obtain ⟨W1, hW1⟩ : ∃ W1, W1 = (w.alloc (.cells #[.slice m.lA m.l.length m.lC, .int .i64 m.m] 31)).alloc (.cells #[.int .i64 14, .int .i64 i, .int .i64 t.k, .int .i64 t.n, .string t.t, .slice t.A t.l.length t.c] 53) := ⟨_, rfl⟩
  have b1 : Below w.heap.size w W1 := by rw [hW1]; exact ((Below.refl _ _).alloc (Nat.le_refl _) _).alloc (by simp) _
  have z1 : w.heap.size + 2 ≤ W1.heap.size := by rw [hW1]; simp
  have xa : Im.Box W1 w.heap.size m := by rw [hW1]; exact (Im.Box.new w m _).below ((Below.refl (w.heap.size + 1) _).alloc (by simp) _) (by omega)
  have xb : Nt.Box W1 (w.heap.size + 1) ⟨14, i, t⟩ := by rw [hW1]; have := Nt.Box.new (w.alloc (.cells #[.slice m.lA m.l.length m.lC, .int .i64 m.m] 31)) ⟨14, i, t⟩ 53; simpa using this
  clear hx x
  unfold Im.val
  obtain ⟨a0, a1⟩ := xa
  obtain ⟨d0, d1, d2, d3, d4, d5⟩ := xb
  go_enter Try.func50, Try.ntmps50
  go_upto_region 1 with fail
  rw [← hW1]
  clear hW1
  go_wp2_with fail
  go_ret2
  exact ⟨rfl, b1⟩

set_option maxRecDepth 100000 in
set_option maxHeartbeats 1000000 in
theorem implEff_15 (m : Im) (i : Int) (t : D) (B : Nat) (w : World) (_hi0 : 0 ≤ i) (_hi1 : i ≤ 4000) (_hin : Im.E.In w B m) (_hB : B ≤ w.heap.size) :
    Calls Try.prog 50 #[Im.val m, .agg #[.int .i64 15, .int .i64 i, .int .i64 t.k, .int .i64 t.n, .string t.t, .slice t.A t.l.length t.c]] w fun e w' => e = .returned (.tuple #[.int .i64 (0), .int .i64 (0)]) ∧ Below w.heap.size w w' := by
  obtain ⟨x, hx⟩ : ∃ x : Nt, x = ⟨15, i, t⟩ := ⟨_, rfl⟩
  obtain ⟨W1, hW1⟩ : ∃ W1, W1 = (w.alloc (.cells #[.slice m.lA m.l.length m.lC, .int .i64 m.m] 31)).alloc (.cells #[.int .i64 15, .int .i64 i, .int .i64 t.k, .int .i64 t.n, .string t.t, .slice t.A t.l.length t.c] 53) := ⟨_, rfl⟩
  have b1 : Below w.heap.size w W1 := by rw [hW1]; exact ((Below.refl _ _).alloc (Nat.le_refl _) _).alloc (by simp) _
  have z1 : w.heap.size + 2 ≤ W1.heap.size := by rw [hW1]; simp
  have xa : Im.Box W1 w.heap.size m := by rw [hW1]; exact (Im.Box.new w m _).below ((Below.refl (w.heap.size + 1) _).alloc (by simp) _) (by omega)
  have xb : Nt.Box W1 (w.heap.size + 1) ⟨15, i, t⟩ := by rw [hW1]; have := Nt.Box.new (w.alloc (.cells #[.slice m.lA m.l.length m.lC, .int .i64 m.m] 31)) ⟨15, i, t⟩ 53; simpa using this
  clear hx x
  unfold Im.val
  obtain ⟨a0, a1⟩ := xa
  obtain ⟨d0, d1, d2, d3, d4, d5⟩ := xb
  go_enter Try.func50, Try.ntmps50
  go_upto_region 1 with fail
  rw [← hW1]
  clear hW1
  go_wp2_with fail
  go_ret2
  exact ⟨rfl, b1⟩

set_option maxRecDepth 100000 in
set_option maxHeartbeats 1000000 in
theorem implEff_16 (m : Im) (i : Int) (t : D) (B : Nat) (w : World) (_hi0 : 0 ≤ i) (_hi1 : i ≤ 4000) (_hin : Im.E.In w B m) (_hB : B ≤ w.heap.size) :
    Calls Try.prog 50 #[Im.val m, .agg #[.int .i64 16, .int .i64 i, .int .i64 t.k, .int .i64 t.n, .string t.t, .slice t.A t.l.length t.c]] w fun e w' => e = .returned (.tuple #[.int .i64 (1), .int .i64 (0)]) ∧ Below w.heap.size w w' := by
  obtain ⟨x, hx⟩ : ∃ x : Nt, x = ⟨16, i, t⟩ := ⟨_, rfl⟩
  obtain ⟨W1, hW1⟩ : ∃ W1, W1 = (w.alloc (.cells #[.slice m.lA m.l.length m.lC, .int .i64 m.m] 31)).alloc (.cells #[.int .i64 16, .int .i64 i, .int .i64 t.k, .int .i64 t.n, .string t.t, .slice t.A t.l.length t.c] 53) := ⟨_, rfl⟩
  have b1 : Below w.heap.size w W1 := by rw [hW1]; exact ((Below.refl _ _).alloc (Nat.le_refl _) _).alloc (by simp) _
  have z1 : w.heap.size + 2 ≤ W1.heap.size := by rw [hW1]; simp
  have xa : Im.Box W1 w.heap.size m := by rw [hW1]; exact (Im.Box.new w m _).below ((Below.refl (w.heap.size + 1) _).alloc (by simp) _) (by omega)
  have xb : Nt.Box W1 (w.heap.size + 1) ⟨16, i, t⟩ := by rw [hW1]; have := Nt.Box.new (w.alloc (.cells #[.slice m.lA m.l.length m.lC, .int .i64 m.m] 31)) ⟨16, i, t⟩ 53; simpa using this
  clear hx x
  unfold Im.val
  obtain ⟨a0, a1⟩ := xa
  obtain ⟨d0, d1, d2, d3, d4, d5⟩ := xb
  go_enter Try.func50, Try.ntmps50
  go_upto_region 1 with fail
  rw [← hW1]
  clear hW1
  go_wp2_with fail
  go_ret2
  exact ⟨rfl, b1⟩

set_option maxRecDepth 100000 in
set_option maxHeartbeats 1000000 in
theorem implEff_17 (m : Im) (i : Int) (t : D) (B : Nat) (w : World) (_hi0 : 0 ≤ i) (_hi1 : i ≤ 4000) (_hin : Im.E.In w B m) (_hB : B ≤ w.heap.size) :
    Calls Try.prog 50 #[Im.val m, .agg #[.int .i64 17, .int .i64 i, .int .i64 t.k, .int .i64 t.n, .string t.t, .slice t.A t.l.length t.c]] w fun e w' => e = .returned (.tuple #[.int .i64 (1), .int .i64 (0)]) ∧ Below w.heap.size w w' := by
  obtain ⟨x, hx⟩ : ∃ x : Nt, x = ⟨17, i, t⟩ := ⟨_, rfl⟩
  obtain ⟨W1, hW1⟩ : ∃ W1, W1 = (w.alloc (.cells #[.slice m.lA m.l.length m.lC, .int .i64 m.m] 31)).alloc (.cells #[.int .i64 17, .int .i64 i, .int .i64 t.k, .int .i64 t.n, .string t.t, .slice t.A t.l.length t.c] 53) := ⟨_, rfl⟩
  have b1 : Below w.heap.size w W1 := by rw [hW1]; exact ((Below.refl _ _).alloc (Nat.le_refl _) _).alloc (by simp) _
  have z1 : w.heap.size + 2 ≤ W1.heap.size := by rw [hW1]; simp
  have xa : Im.Box W1 w.heap.size m := by rw [hW1]; exact (Im.Box.new w m _).below ((Below.refl (w.heap.size + 1) _).alloc (by simp) _) (by omega)
  have xb : Nt.Box W1 (w.heap.size + 1) ⟨17, i, t⟩ := by rw [hW1]; have := Nt.Box.new (w.alloc (.cells #[.slice m.lA m.l.length m.lC, .int .i64 m.m] 31)) ⟨17, i, t⟩ 53; simpa using this
  clear hx x
  unfold Im.val
  obtain ⟨a0, a1⟩ := xa
  obtain ⟨d0, d1, d2, d3, d4, d5⟩ := xb
  go_enter Try.func50, Try.ntmps50
  go_upto_region 1 with fail
  rw [← hW1]
  clear hW1
  go_wp2_with fail
  go_ret2
  exact ⟨rfl, b1⟩

set_option maxRecDepth 100000 in
set_option maxHeartbeats 1000000 in
theorem implEff_18 (m : Im) (i : Int) (t : D) (B : Nat) (w : World) (hi0 : 0 ≤ i) (hi1 : i ≤ 4000) (hl : i.toNat < m.l.length) (hin : Im.E.In w B m) (hB : B ≤ w.heap.size) :
    Calls Try.prog 50 #[Im.val m, .agg #[.int .i64 18, .int .i64 i, .int .i64 t.k, .int .i64 t.n, .string t.t, .slice t.A t.l.length t.c]] w fun e w' => e = .returned (.tuple #[.int .i64 ((Cd.at' m.l i).c), .int .i64 (1)]) ∧ Below w.heap.size w w' := by
  obtain ⟨x, hx⟩ : ∃ x : Nt, x = ⟨18, i, t⟩ := ⟨_, rfl⟩
  obtain ⟨W1, hW1⟩ : ∃ W1, W1 = (w.alloc (.cells #[.slice m.lA m.l.length m.lC, .int .i64 m.m] 31)).alloc (.cells #[.int .i64 18, .int .i64 i, .int .i64 t.k, .int .i64 t.n, .string t.t, .slice t.A t.l.length t.c] 53) := ⟨_, rfl⟩
  have b1 : Below w.heap.size w W1 := by rw [hW1]; exact ((Below.refl _ _).alloc (Nat.le_refl _) _).alloc (by simp) _
  have z1 : w.heap.size + 2 ≤ W1.heap.size := by rw [hW1]; simp
  have xa : Im.Box W1 w.heap.size m := by rw [hW1]; exact (Im.Box.new w m _).below ((Below.refl (w.heap.size + 1) _).alloc (by simp) _) (by omega)
  have xb : Nt.Box W1 (w.heap.size + 1) ⟨18, i, t⟩ := by rw [hW1]; have := Nt.Box.new (w.alloc (.cells #[.slice m.lA m.l.length m.lC, .int .i64 m.m] 31)) ⟨18, i, t⟩ 53; simpa using this
  clear hx x
  unfold Im.val
  obtain ⟨j, rfl⟩ : ∃ j : Nat, i = j := ⟨i.toNat, by omega⟩
  rw [Int.toNat_natCast] at hl
  have hcs := (Im.E_in (hin.below (b1.mono hB))).l
  obtain ⟨cb, co, eC, hblk, _, _, c2, _, _⟩ := Cd.at_ hcs (i := j) (x := m.l[j]) (List.getElem?_eq_getElem hl)
  rw [← Cd.at'_get hl] at c2
  obtain ⟨V, hV⟩ : ∃ V, V = (Cd.at' m.l (j : Int)).c := ⟨_, rfl⟩
  rw [← hV] at c2 ⊢
  clear hV
  obtain ⟨a0, a1⟩ := xa
  obtain ⟨d0, d1, d2, d3, d4, d5⟩ := xb
  rw [eC] at a0
  clear eC
  have lj : (j : Int) < (m.l.length : Int) := by omega
  have lb : cb < W1.heap.size := by omega
  go_enter Try.func50, Try.ntmps50
  go_upto_region 1 with fail
  rw [← hW1]
  clear hW1
  go_wp2_with fail
  go_ret2
  exact ⟨rfl, b1⟩

set_option maxRecDepth 100000 in
set_option maxHeartbeats 1000000 in
theorem implEff_19 (m : Im) (i : Int) (t : D) (B : Nat) (w : World) (hi0 : 0 ≤ i) (hi1 : i ≤ 4000) (hl : i.toNat < m.l.length) (hin : Im.E.In w B m) (hB : B ≤ w.heap.size) :
    Calls Try.prog 50 #[Im.val m, .agg #[.int .i64 19, .int .i64 i, .int .i64 t.k, .int .i64 t.n, .string t.t, .slice t.A t.l.length t.c]] w fun e w' => e = .returned (.tuple #[.int .i64 ((Cd.at' m.l i).c), .int .i64 (1)]) ∧ Below w.heap.size w w' := by
  obtain ⟨x, hx⟩ : ∃ x : Nt, x = ⟨19, i, t⟩ := ⟨_, rfl⟩
  obtain ⟨W1, hW1⟩ : ∃ W1, W1 = (w.alloc (.cells #[.slice m.lA m.l.length m.lC, .int .i64 m.m] 31)).alloc (.cells #[.int .i64 19, .int .i64 i, .int .i64 t.k, .int .i64 t.n, .string t.t, .slice t.A t.l.length t.c] 53) := ⟨_, rfl⟩
  have b1 : Below w.heap.size w W1 := by rw [hW1]; exact ((Below.refl _ _).alloc (Nat.le_refl _) _).alloc (by simp) _
  have z1 : w.heap.size + 2 ≤ W1.heap.size := by rw [hW1]; simp
  have xa : Im.Box W1 w.heap.size m := by rw [hW1]; exact (Im.Box.new w m _).below ((Below.refl (w.heap.size + 1) _).alloc (by simp) _) (by omega)
  have xb : Nt.Box W1 (w.heap.size + 1) ⟨19, i, t⟩ := by rw [hW1]; have := Nt.Box.new (w.alloc (.cells #[.slice m.lA m.l.length m.lC, .int .i64 m.m] 31)) ⟨19, i, t⟩ 53; simpa using this
  clear hx x
  unfold Im.val
  obtain ⟨j, rfl⟩ : ∃ j : Nat, i = j := ⟨i.toNat, by omega⟩
  rw [Int.toNat_natCast] at hl
  have hcs := (Im.E_in (hin.below (b1.mono hB))).l
  obtain ⟨cb, co, eC, hblk, _, _, c2, _, _⟩ := Cd.at_ hcs (i := j) (x := m.l[j]) (List.getElem?_eq_getElem hl)
  rw [← Cd.at'_get hl] at c2
  obtain ⟨V, hV⟩ : ∃ V, V = (Cd.at' m.l (j : Int)).c := ⟨_, rfl⟩
  rw [← hV] at c2 ⊢
  clear hV
  obtain ⟨a0, a1⟩ := xa
  obtain ⟨d0, d1, d2, d3, d4, d5⟩ := xb
  rw [eC] at a0
  clear eC
  have lj : (j : Int) < (m.l.length : Int) := by omega
  have lb : cb < W1.heap.size := by omega
  go_enter Try.func50, Try.ntmps50
  go_upto_region 1 with fail
  rw [← hW1]
  clear hW1
  go_wp2_with fail
  go_ret2
  exact ⟨rfl, b1⟩

set_option maxRecDepth 100000 in
set_option maxHeartbeats 1000000 in
theorem implEff_20 (m : Im) (i : Int) (t : D) (B : Nat) (w : World) (hi0 : 0 ≤ i) (hi1 : i ≤ 4000) (hl : i.toNat < m.l.length) (hin : Im.E.In w B m) (hB : B ≤ w.heap.size) :
    Calls Try.prog 50 #[Im.val m, .agg #[.int .i64 20, .int .i64 i, .int .i64 t.k, .int .i64 t.n, .string t.t, .slice t.A t.l.length t.c]] w fun e w' => e = .returned (.tuple #[.int .i64 ((Cd.at' m.l i).c), .int .i64 (1)]) ∧ Below w.heap.size w w' := by
  obtain ⟨x, hx⟩ : ∃ x : Nt, x = ⟨20, i, t⟩ := ⟨_, rfl⟩
  obtain ⟨W1, hW1⟩ : ∃ W1, W1 = (w.alloc (.cells #[.slice m.lA m.l.length m.lC, .int .i64 m.m] 31)).alloc (.cells #[.int .i64 20, .int .i64 i, .int .i64 t.k, .int .i64 t.n, .string t.t, .slice t.A t.l.length t.c] 53) := ⟨_, rfl⟩
  have b1 : Below w.heap.size w W1 := by rw [hW1]; exact ((Below.refl _ _).alloc (Nat.le_refl _) _).alloc (by simp) _
  have z1 : w.heap.size + 2 ≤ W1.heap.size := by rw [hW1]; simp
  have xa : Im.Box W1 w.heap.size m := by rw [hW1]; exact (Im.Box.new w m _).below ((Below.refl (w.heap.size + 1) _).alloc (by simp) _) (by omega)
  have xb : Nt.Box W1 (w.heap.size + 1) ⟨20, i, t⟩ := by rw [hW1]; have := Nt.Box.new (w.alloc (.cells #[.slice m.lA m.l.length m.lC, .int .i64 m.m] 31)) ⟨20, i, t⟩ 53; simpa using this
  clear hx x
  unfold Im.val
  obtain ⟨j, rfl⟩ : ∃ j : Nat, i = j := ⟨i.toNat, by omega⟩
  rw [Int.toNat_natCast] at hl
  have hcs := (Im.E_in (hin.below (b1.mono hB))).l
  obtain ⟨cb, co, eC, hblk, _, _, c2, _, _⟩ := Cd.at_ hcs (i := j) (x := m.l[j]) (List.getElem?_eq_getElem hl)
  rw [← Cd.at'_get hl] at c2
  obtain ⟨V, hV⟩ : ∃ V, V = (Cd.at' m.l (j : Int)).c := ⟨_, rfl⟩
  rw [← hV] at c2 ⊢
  clear hV
  obtain ⟨a0, a1⟩ := xa
  obtain ⟨d0, d1, d2, d3, d4, d5⟩ := xb
  rw [eC] at a0
  clear eC
  have lj : (j : Int) < (m.l.length : Int) := by omega
  have lb : cb < W1.heap.size := by omega
  go_enter Try.func50, Try.ntmps50
  go_upto_region 1 with fail
  rw [← hW1]
  clear hW1
  go_wp2_with fail
  go_ret2
  exact ⟨rfl, b1⟩
theorem implEff_any (m : Im) (x : Nt) (B : Nat) (w : World) (ho : 1 ≤ x.o ∧ x.o ≤ 20) (hi0 : 0 ≤ x.i) (hi1 : x.i ≤ 4000) (hl : x.o = 11 ∨ 18 ≤ x.o → x.i.toNat < m.l.length) (hin : Im.E.In w B m) (hB : B ≤ w.heap.size) :
    Calls Try.prog 50 #[Im.val m, Nt.val x] w fun e w' => e = .returned (.tuple #[.int .i64 (x.eff m.l).1, .int .i64 (x.eff m.l).2]) ∧ Below w.heap.size w w' := by
  obtain ⟨o, i, t⟩ := x
  obtain ⟨k, rfl⟩ : ∃ k : Nat, o = k := ⟨o.toNat, by have := ho.1; dsimp only at this; omega⟩
  have hk : k < 21 := by have := ho.2; dsimp only at this; omega
  have hk0 : 0 < k := by have := ho.1; dsimp only at this; omega
  dsimp only at hi0 hi1 hl
  match k, hk, hk0 with
  | 1, _, _ => exact (implEff_1 m i t B w hi0 hi1 hin hB)
  | 2, _, _ => exact (implEff_2 m i t B w hi0 hi1 hin hB)
  | 3, _, _ => exact (implEff_3 m i t B w hi0 hi1 hin hB)
  | 4, _, _ => exact (implEff_4 m i t B w hi0 hi1 hin hB)
  | 5, _, _ => exact (implEff_5 m i t B w hi0 hi1 hin hB)
  | 6, _, _ => exact (implEff_6 m i t B w hi0 hi1 hin hB)
  | 7, _, _ => exact (implEff_7 m i t B w hi0 hi1 hin hB)
  | 8, _, _ => exact (implEff_8 m i t B w hi0 hi1 hin hB)
  | 9, _, _ => exact (implEff_9 m i t B w hi0 hi1 hin hB)
  | 10, _, _ => exact (implEff_10 m i t B w hi0 hi1 hin hB)
  | 11, _, _ => exact (implEff_11 m i t B w hi0 hi1 (hl (by decide)) hin hB)
  | 12, _, _ => exact (implEff_12 m i t B w hi0 hi1 hin hB)
  | 13, _, _ => exact (implEff_13 m i t B w hi0 hi1 hin hB)
  | 14, _, _ => exact (implEff_14 m i t B w hi0 hi1 hin hB)
  | 15, _, _ => exact (implEff_15 m i t B w hi0 hi1 hin hB)
  | 16, _, _ => exact (implEff_16 m i t B w hi0 hi1 hin hB)
  | 17, _, _ => exact (implEff_17 m i t B w hi0 hi1 hin hB)
  | 18, _, _ => exact (implEff_18 m i t B w hi0 hi1 (hl (by decide)) hin hB)
  | 19, _, _ => exact (implEff_19 m i t B w hi0 hi1 (hl (by decide)) hin hB)
  | 20, _, _ => exact (implEff_20 m i t B w hi0 hi1 (hl (by decide)) hin hB)
  | n + 21, hn, _ => exact absurd hn (by omega)

set_option maxRecDepth 100000 in
set_option maxHeartbeats 1000000 in
theorem specEff_1 (m : Im) (i : Int) (t : D) (B : Nat) (w : World) (_hi0 : 0 ≤ i) (_hi1 : i ≤ 4000) (_hin : Im.E.In w B m) (_hB : B ≤ w.heap.size) :
    Calls Try.prog 47 #[Im.val m, .agg #[.int .i64 1, .int .i64 i, .int .i64 t.k, .int .i64 t.n, .string t.t, .slice t.A t.l.length t.c]] w fun e w' => e = .returned (.tuple #[.int .i64 (0), .int .i64 (1)]) ∧ Below w.heap.size w w' := by
  obtain ⟨x, hx⟩ : ∃ x : Nt, x = ⟨1, i, t⟩ := ⟨_, rfl⟩
  obtain ⟨W1, hW1⟩ : ∃ W1, W1 = (w.alloc (.cells #[.slice m.lA m.l.length m.lC, .int .i64 m.m] 31)).alloc (.cells #[.int .i64 1, .int .i64 i, .int .i64 t.k, .int .i64 t.n, .string t.t, .slice t.A t.l.length t.c] 53) := ⟨_, rfl⟩
  have b1 : Below w.heap.size w W1 := by rw [hW1]; exact ((Below.refl _ _).alloc (Nat.le_refl _) _).alloc (by simp) _
  have z1 : w.heap.size + 2 ≤ W1.heap.size := by rw [hW1]; simp
  have xa : Im.Box W1 w.heap.size m := by rw [hW1]; exact (Im.Box.new w m _).below ((Below.refl (w.heap.size + 1) _).alloc (by simp) _) (by omega)
  have xb : Nt.Box W1 (w.heap.size + 1) ⟨1, i, t⟩ := by rw [hW1]; have := Nt.Box.new (w.alloc (.cells #[.slice m.lA m.l.length m.lC, .int .i64 m.m] 31)) ⟨1, i, t⟩ 53; simpa using this
  clear hx x
  unfold Im.val
  obtain ⟨a0, a1⟩ := xa
  obtain ⟨d0, d1, d2, d3, d4, d5⟩ := xb
  go_enter Try.func47, Try.ntmps47
  go_upto_region 1 with fail
  rw [← hW1]
  clear hW1
  go_wp2_with fail
  go_ret2
  exact ⟨rfl, b1⟩

set_option maxRecDepth 100000 in
set_option maxHeartbeats 1000000 in
theorem specEff_2 (m : Im) (i : Int) (t : D) (B : Nat) (w : World) (_hi0 : 0 ≤ i) (_hi1 : i ≤ 4000) (_hin : Im.E.In w B m) (_hB : B ≤ w.heap.size) :
    Calls Try.prog 47 #[Im.val m, .agg #[.int .i64 2, .int .i64 i, .int .i64 t.k, .int .i64 t.n, .string t.t, .slice t.A t.l.length t.c]] w fun e w' => e = .returned (.tuple #[.int .i64 (0), .int .i64 (1)]) ∧ Below w.heap.size w w' := by
  obtain ⟨x, hx⟩ : ∃ x : Nt, x = ⟨2, i, t⟩ := ⟨_, rfl⟩
  obtain ⟨W1, hW1⟩ : ∃ W1, W1 = (w.alloc (.cells #[.slice m.lA m.l.length m.lC, .int .i64 m.m] 31)).alloc (.cells #[.int .i64 2, .int .i64 i, .int .i64 t.k, .int .i64 t.n, .string t.t, .slice t.A t.l.length t.c] 53) := ⟨_, rfl⟩
  have b1 : Below w.heap.size w W1 := by rw [hW1]; exact ((Below.refl _ _).alloc (Nat.le_refl _) _).alloc (by simp) _
  have z1 : w.heap.size + 2 ≤ W1.heap.size := by rw [hW1]; simp
  have xa : Im.Box W1 w.heap.size m := by rw [hW1]; exact (Im.Box.new w m _).below ((Below.refl (w.heap.size + 1) _).alloc (by simp) _) (by omega)
  have xb : Nt.Box W1 (w.heap.size + 1) ⟨2, i, t⟩ := by rw [hW1]; have := Nt.Box.new (w.alloc (.cells #[.slice m.lA m.l.length m.lC, .int .i64 m.m] 31)) ⟨2, i, t⟩ 53; simpa using this
  clear hx x
  unfold Im.val
  obtain ⟨a0, a1⟩ := xa
  obtain ⟨d0, d1, d2, d3, d4, d5⟩ := xb
  go_enter Try.func47, Try.ntmps47
  go_upto_region 1 with fail
  rw [← hW1]
  clear hW1
  go_wp2_with fail
  go_ret2
  exact ⟨rfl, b1⟩

set_option maxRecDepth 100000 in
set_option maxHeartbeats 1000000 in
theorem specEff_3 (m : Im) (i : Int) (t : D) (B : Nat) (w : World) (_hi0 : 0 ≤ i) (_hi1 : i ≤ 4000) (_hin : Im.E.In w B m) (_hB : B ≤ w.heap.size) :
    Calls Try.prog 47 #[Im.val m, .agg #[.int .i64 3, .int .i64 i, .int .i64 t.k, .int .i64 t.n, .string t.t, .slice t.A t.l.length t.c]] w fun e w' => e = .returned (.tuple #[.int .i64 (0), .int .i64 (1)]) ∧ Below w.heap.size w w' := by
  obtain ⟨x, hx⟩ : ∃ x : Nt, x = ⟨3, i, t⟩ := ⟨_, rfl⟩
  obtain ⟨W1, hW1⟩ : ∃ W1, W1 = (w.alloc (.cells #[.slice m.lA m.l.length m.lC, .int .i64 m.m] 31)).alloc (.cells #[.int .i64 3, .int .i64 i, .int .i64 t.k, .int .i64 t.n, .string t.t, .slice t.A t.l.length t.c] 53) := ⟨_, rfl⟩
  have b1 : Below w.heap.size w W1 := by rw [hW1]; exact ((Below.refl _ _).alloc (Nat.le_refl _) _).alloc (by simp) _
  have z1 : w.heap.size + 2 ≤ W1.heap.size := by rw [hW1]; simp
  have xa : Im.Box W1 w.heap.size m := by rw [hW1]; exact (Im.Box.new w m _).below ((Below.refl (w.heap.size + 1) _).alloc (by simp) _) (by omega)
  have xb : Nt.Box W1 (w.heap.size + 1) ⟨3, i, t⟩ := by rw [hW1]; have := Nt.Box.new (w.alloc (.cells #[.slice m.lA m.l.length m.lC, .int .i64 m.m] 31)) ⟨3, i, t⟩ 53; simpa using this
  clear hx x
  unfold Im.val
  obtain ⟨a0, a1⟩ := xa
  obtain ⟨d0, d1, d2, d3, d4, d5⟩ := xb
  go_enter Try.func47, Try.ntmps47
  go_upto_region 1 with fail
  rw [← hW1]
  clear hW1
  go_wp2_with fail
  go_ret2
  exact ⟨rfl, b1⟩

set_option maxRecDepth 100000 in
set_option maxHeartbeats 1000000 in
theorem specEff_4 (m : Im) (i : Int) (t : D) (B : Nat) (w : World) (_hi0 : 0 ≤ i) (_hi1 : i ≤ 4000) (_hin : Im.E.In w B m) (_hB : B ≤ w.heap.size) :
    Calls Try.prog 47 #[Im.val m, .agg #[.int .i64 4, .int .i64 i, .int .i64 t.k, .int .i64 t.n, .string t.t, .slice t.A t.l.length t.c]] w fun e w' => e = .returned (.tuple #[.int .i64 (0), .int .i64 (1)]) ∧ Below w.heap.size w w' := by
  obtain ⟨x, hx⟩ : ∃ x : Nt, x = ⟨4, i, t⟩ := ⟨_, rfl⟩
  obtain ⟨W1, hW1⟩ : ∃ W1, W1 = (w.alloc (.cells #[.slice m.lA m.l.length m.lC, .int .i64 m.m] 31)).alloc (.cells #[.int .i64 4, .int .i64 i, .int .i64 t.k, .int .i64 t.n, .string t.t, .slice t.A t.l.length t.c] 53) := ⟨_, rfl⟩
  have b1 : Below w.heap.size w W1 := by rw [hW1]; exact ((Below.refl _ _).alloc (Nat.le_refl _) _).alloc (by simp) _
  have z1 : w.heap.size + 2 ≤ W1.heap.size := by rw [hW1]; simp
  have xa : Im.Box W1 w.heap.size m := by rw [hW1]; exact (Im.Box.new w m _).below ((Below.refl (w.heap.size + 1) _).alloc (by simp) _) (by omega)
  have xb : Nt.Box W1 (w.heap.size + 1) ⟨4, i, t⟩ := by rw [hW1]; have := Nt.Box.new (w.alloc (.cells #[.slice m.lA m.l.length m.lC, .int .i64 m.m] 31)) ⟨4, i, t⟩ 53; simpa using this
  clear hx x
  unfold Im.val
  obtain ⟨a0, a1⟩ := xa
  obtain ⟨d0, d1, d2, d3, d4, d5⟩ := xb
  go_enter Try.func47, Try.ntmps47
  go_upto_region 1 with fail
  rw [← hW1]
  clear hW1
  go_wp2_with fail
  go_ret2
  exact ⟨rfl, b1⟩

set_option maxRecDepth 100000 in
set_option maxHeartbeats 1000000 in
theorem specEff_5 (m : Im) (i : Int) (t : D) (B : Nat) (w : World) (_hi0 : 0 ≤ i) (_hi1 : i ≤ 4000) (_hin : Im.E.In w B m) (_hB : B ≤ w.heap.size) :
    Calls Try.prog 47 #[Im.val m, .agg #[.int .i64 5, .int .i64 i, .int .i64 t.k, .int .i64 t.n, .string t.t, .slice t.A t.l.length t.c]] w fun e w' => e = .returned (.tuple #[.int .i64 (0), .int .i64 (1)]) ∧ Below w.heap.size w w' := by
  obtain ⟨x, hx⟩ : ∃ x : Nt, x = ⟨5, i, t⟩ := ⟨_, rfl⟩
  obtain ⟨W1, hW1⟩ : ∃ W1, W1 = (w.alloc (.cells #[.slice m.lA m.l.length m.lC, .int .i64 m.m] 31)).alloc (.cells #[.int .i64 5, .int .i64 i, .int .i64 t.k, .int .i64 t.n, .string t.t, .slice t.A t.l.length t.c] 53) := ⟨_, rfl⟩
  have b1 : Below w.heap.size w W1 := by rw [hW1]; exact ((Below.refl _ _).alloc (Nat.le_refl _) _).alloc (by simp) _
  have z1 : w.heap.size + 2 ≤ W1.heap.size := by rw [hW1]; simp
  have xa : Im.Box W1 w.heap.size m := by rw [hW1]; exact (Im.Box.new w m _).below ((Below.refl (w.heap.size + 1) _).alloc (by simp) _) (by omega)
  have xb : Nt.Box W1 (w.heap.size + 1) ⟨5, i, t⟩ := by rw [hW1]; have := Nt.Box.new (w.alloc (.cells #[.slice m.lA m.l.length m.lC, .int .i64 m.m] 31)) ⟨5, i, t⟩ 53; simpa using this
  clear hx x
  unfold Im.val
  obtain ⟨a0, a1⟩ := xa
  obtain ⟨d0, d1, d2, d3, d4, d5⟩ := xb
  go_enter Try.func47, Try.ntmps47
  go_upto_region 1 with fail
  rw [← hW1]
  clear hW1
  go_wp2_with fail
  go_ret2
  exact ⟨rfl, b1⟩

set_option maxRecDepth 100000 in
set_option maxHeartbeats 1000000 in
theorem specEff_6 (m : Im) (i : Int) (t : D) (B : Nat) (w : World) (_hi0 : 0 ≤ i) (_hi1 : i ≤ 4000) (_hin : Im.E.In w B m) (_hB : B ≤ w.heap.size) :
    Calls Try.prog 47 #[Im.val m, .agg #[.int .i64 6, .int .i64 i, .int .i64 t.k, .int .i64 t.n, .string t.t, .slice t.A t.l.length t.c]] w fun e w' => e = .returned (.tuple #[.int .i64 (0), .int .i64 (1)]) ∧ Below w.heap.size w w' := by
  obtain ⟨x, hx⟩ : ∃ x : Nt, x = ⟨6, i, t⟩ := ⟨_, rfl⟩
  obtain ⟨W1, hW1⟩ : ∃ W1, W1 = (w.alloc (.cells #[.slice m.lA m.l.length m.lC, .int .i64 m.m] 31)).alloc (.cells #[.int .i64 6, .int .i64 i, .int .i64 t.k, .int .i64 t.n, .string t.t, .slice t.A t.l.length t.c] 53) := ⟨_, rfl⟩
  have b1 : Below w.heap.size w W1 := by rw [hW1]; exact ((Below.refl _ _).alloc (Nat.le_refl _) _).alloc (by simp) _
  have z1 : w.heap.size + 2 ≤ W1.heap.size := by rw [hW1]; simp
  have xa : Im.Box W1 w.heap.size m := by rw [hW1]; exact (Im.Box.new w m _).below ((Below.refl (w.heap.size + 1) _).alloc (by simp) _) (by omega)
  have xb : Nt.Box W1 (w.heap.size + 1) ⟨6, i, t⟩ := by rw [hW1]; have := Nt.Box.new (w.alloc (.cells #[.slice m.lA m.l.length m.lC, .int .i64 m.m] 31)) ⟨6, i, t⟩ 53; simpa using this
  clear hx x
  unfold Im.val
  obtain ⟨a0, a1⟩ := xa
  obtain ⟨d0, d1, d2, d3, d4, d5⟩ := xb
  go_enter Try.func47, Try.ntmps47
  go_upto_region 1 with fail
  rw [← hW1]
  clear hW1
  go_wp2_with fail
  go_ret2
  exact ⟨rfl, b1⟩

set_option maxRecDepth 100000 in
set_option maxHeartbeats 1000000 in
theorem specEff_7 (m : Im) (i : Int) (t : D) (B : Nat) (w : World) (_hi0 : 0 ≤ i) (_hi1 : i ≤ 4000) (_hin : Im.E.In w B m) (_hB : B ≤ w.heap.size) :
    Calls Try.prog 47 #[Im.val m, .agg #[.int .i64 7, .int .i64 i, .int .i64 t.k, .int .i64 t.n, .string t.t, .slice t.A t.l.length t.c]] w fun e w' => e = .returned (.tuple #[.int .i64 (1), .int .i64 (1)]) ∧ Below w.heap.size w w' := by
  obtain ⟨x, hx⟩ : ∃ x : Nt, x = ⟨7, i, t⟩ := ⟨_, rfl⟩
  obtain ⟨W1, hW1⟩ : ∃ W1, W1 = (w.alloc (.cells #[.slice m.lA m.l.length m.lC, .int .i64 m.m] 31)).alloc (.cells #[.int .i64 7, .int .i64 i, .int .i64 t.k, .int .i64 t.n, .string t.t, .slice t.A t.l.length t.c] 53) := ⟨_, rfl⟩
  have b1 : Below w.heap.size w W1 := by rw [hW1]; exact ((Below.refl _ _).alloc (Nat.le_refl _) _).alloc (by simp) _
  have z1 : w.heap.size + 2 ≤ W1.heap.size := by rw [hW1]; simp
  have xa : Im.Box W1 w.heap.size m := by rw [hW1]; exact (Im.Box.new w m _).below ((Below.refl (w.heap.size + 1) _).alloc (by simp) _) (by omega)
  have xb : Nt.Box W1 (w.heap.size + 1) ⟨7, i, t⟩ := by rw [hW1]; have := Nt.Box.new (w.alloc (.cells #[.slice m.lA m.l.length m.lC, .int .i64 m.m] 31)) ⟨7, i, t⟩ 53; simpa using this
  clear hx x
  unfold Im.val
  obtain ⟨a0, a1⟩ := xa
  obtain ⟨d0, d1, d2, d3, d4, d5⟩ := xb
  go_enter Try.func47, Try.ntmps47
  go_upto_region 1 with fail
  rw [← hW1]
  clear hW1
  go_wp2_with fail
  go_ret2
  exact ⟨rfl, b1⟩

set_option maxRecDepth 100000 in
set_option maxHeartbeats 1000000 in
theorem specEff_8 (m : Im) (i : Int) (t : D) (B : Nat) (w : World) (_hi0 : 0 ≤ i) (_hi1 : i ≤ 4000) (_hin : Im.E.In w B m) (_hB : B ≤ w.heap.size) :
    Calls Try.prog 47 #[Im.val m, .agg #[.int .i64 8, .int .i64 i, .int .i64 t.k, .int .i64 t.n, .string t.t, .slice t.A t.l.length t.c]] w fun e w' => e = .returned (.tuple #[.int .i64 (1), .int .i64 (1)]) ∧ Below w.heap.size w w' := by
  obtain ⟨x, hx⟩ : ∃ x : Nt, x = ⟨8, i, t⟩ := ⟨_, rfl⟩
  obtain ⟨W1, hW1⟩ : ∃ W1, W1 = (w.alloc (.cells #[.slice m.lA m.l.length m.lC, .int .i64 m.m] 31)).alloc (.cells #[.int .i64 8, .int .i64 i, .int .i64 t.k, .int .i64 t.n, .string t.t, .slice t.A t.l.length t.c] 53) := ⟨_, rfl⟩
  have b1 : Below w.heap.size w W1 := by rw [hW1]; exact ((Below.refl _ _).alloc (Nat.le_refl _) _).alloc (by simp) _
  have z1 : w.heap.size + 2 ≤ W1.heap.size := by rw [hW1]; simp
  have xa : Im.Box W1 w.heap.size m := by rw [hW1]; exact (Im.Box.new w m _).below ((Below.refl (w.heap.size + 1) _).alloc (by simp) _) (by omega)
  have xb : Nt.Box W1 (w.heap.size + 1) ⟨8, i, t⟩ := by rw [hW1]; have := Nt.Box.new (w.alloc (.cells #[.slice m.lA m.l.length m.lC, .int .i64 m.m] 31)) ⟨8, i, t⟩ 53; simpa using this
  clear hx x
  unfold Im.val
  obtain ⟨a0, a1⟩ := xa
  obtain ⟨d0, d1, d2, d3, d4, d5⟩ := xb
  go_enter Try.func47, Try.ntmps47
  go_upto_region 1 with fail
  rw [← hW1]
  clear hW1
  go_wp2_with fail
  go_ret2
  exact ⟨rfl, b1⟩

set_option maxRecDepth 100000 in
set_option maxHeartbeats 1000000 in
theorem specEff_9 (m : Im) (i : Int) (t : D) (B : Nat) (w : World) (_hi0 : 0 ≤ i) (_hi1 : i ≤ 4000) (_hin : Im.E.In w B m) (_hB : B ≤ w.heap.size) :
    Calls Try.prog 47 #[Im.val m, .agg #[.int .i64 9, .int .i64 i, .int .i64 t.k, .int .i64 t.n, .string t.t, .slice t.A t.l.length t.c]] w fun e w' => e = .returned (.tuple #[.int .i64 (0), .int .i64 (0)]) ∧ Below w.heap.size w w' := by
  obtain ⟨x, hx⟩ : ∃ x : Nt, x = ⟨9, i, t⟩ := ⟨_, rfl⟩
  obtain ⟨W1, hW1⟩ : ∃ W1, W1 = (w.alloc (.cells #[.slice m.lA m.l.length m.lC, .int .i64 m.m] 31)).alloc (.cells #[.int .i64 9, .int .i64 i, .int .i64 t.k, .int .i64 t.n, .string t.t, .slice t.A t.l.length t.c] 53) := ⟨_, rfl⟩
  have b1 : Below w.heap.size w W1 := by rw [hW1]; exact ((Below.refl _ _).alloc (Nat.le_refl _) _).alloc (by simp) _
  have z1 : w.heap.size + 2 ≤ W1.heap.size := by rw [hW1]; simp
  have xa : Im.Box W1 w.heap.size m := by rw [hW1]; exact (Im.Box.new w m _).below ((Below.refl (w.heap.size + 1) _).alloc (by simp) _) (by omega)
  have xb : Nt.Box W1 (w.heap.size + 1) ⟨9, i, t⟩ := by rw [hW1]; have := Nt.Box.new (w.alloc (.cells #[.slice m.lA m.l.length m.lC, .int .i64 m.m] 31)) ⟨9, i, t⟩ 53; simpa using this
  clear hx x
  unfold Im.val
  obtain ⟨a0, a1⟩ := xa
  obtain ⟨d0, d1, d2, d3, d4, d5⟩ := xb
  go_enter Try.func47, Try.ntmps47
  go_upto_region 1 with fail
  rw [← hW1]
  clear hW1
  go_wp2_with fail
  go_ret2
  exact ⟨rfl, b1⟩

set_option maxRecDepth 100000 in
set_option maxHeartbeats 1000000 in
theorem specEff_10 (m : Im) (i : Int) (t : D) (B : Nat) (w : World) (_hi0 : 0 ≤ i) (_hi1 : i ≤ 4000) (_hin : Im.E.In w B m) (_hB : B ≤ w.heap.size) :
    Calls Try.prog 47 #[Im.val m, .agg #[.int .i64 10, .int .i64 i, .int .i64 t.k, .int .i64 t.n, .string t.t, .slice t.A t.l.length t.c]] w fun e w' => e = .returned (.tuple #[.int .i64 (0), .int .i64 (0)]) ∧ Below w.heap.size w w' := by
  obtain ⟨x, hx⟩ : ∃ x : Nt, x = ⟨10, i, t⟩ := ⟨_, rfl⟩
  obtain ⟨W1, hW1⟩ : ∃ W1, W1 = (w.alloc (.cells #[.slice m.lA m.l.length m.lC, .int .i64 m.m] 31)).alloc (.cells #[.int .i64 10, .int .i64 i, .int .i64 t.k, .int .i64 t.n, .string t.t, .slice t.A t.l.length t.c] 53) := ⟨_, rfl⟩
  have b1 : Below w.heap.size w W1 := by rw [hW1]; exact ((Below.refl _ _).alloc (Nat.le_refl _) _).alloc (by simp) _
  have z1 : w.heap.size + 2 ≤ W1.heap.size := by rw [hW1]; simp
  have xa : Im.Box W1 w.heap.size m := by rw [hW1]; exact (Im.Box.new w m _).below ((Below.refl (w.heap.size + 1) _).alloc (by simp) _) (by omega)
  have xb : Nt.Box W1 (w.heap.size + 1) ⟨10, i, t⟩ := by rw [hW1]; have := Nt.Box.new (w.alloc (.cells #[.slice m.lA m.l.length m.lC, .int .i64 m.m] 31)) ⟨10, i, t⟩ 53; simpa using this
  clear hx x
  unfold Im.val
  obtain ⟨a0, a1⟩ := xa
  obtain ⟨d0, d1, d2, d3, d4, d5⟩ := xb
  go_enter Try.func47, Try.ntmps47
  go_upto_region 1 with fail
  rw [← hW1]
  clear hW1
  go_wp2_with fail
  go_ret2
  exact ⟨rfl, b1⟩

set_option maxRecDepth 100000 in
set_option maxHeartbeats 1000000 in
theorem specEff_11 (m : Im) (i : Int) (t : D) (B : Nat) (w : World) (hi0 : 0 ≤ i) (hi1 : i ≤ 4000) (hl : i.toNat < m.l.length) (hin : Im.E.In w B m) (hB : B ≤ w.heap.size) :
    Calls Try.prog 47 #[Im.val m, .agg #[.int .i64 11, .int .i64 i, .int .i64 t.k, .int .i64 t.n, .string t.t, .slice t.A t.l.length t.c]] w fun e w' => e = .returned (.tuple #[.int .i64 ((Cd.at' m.l i).c), .int .i64 (1)]) ∧ Below w.heap.size w w' := by
  obtain ⟨x, hx⟩ : ∃ x : Nt, x = ⟨11, i, t⟩ := ⟨_, rfl⟩
  obtain ⟨W1, hW1⟩ : ∃ W1, W1 = (w.alloc (.cells #[.slice m.lA m.l.length m.lC, .int .i64 m.m] 31)).alloc (.cells #[.int .i64 11, .int .i64 i, .int .i64 t.k, .int .i64 t.n, .string t.t, .slice t.A t.l.length t.c] 53) := ⟨_, rfl⟩
  have b1 : Below w.heap.size w W1 := by rw [hW1]; exact ((Below.refl _ _).alloc (Nat.le_refl _) _).alloc (by simp) _
  have z1 : w.heap.size + 2 ≤ W1.heap.size := by rw [hW1]; simp
  have xa : Im.Box W1 w.heap.size m := by rw [hW1]; exact (Im.Box.new w m _).below ((Below.refl (w.heap.size + 1) _).alloc (by simp) _) (by omega)
  have xb : Nt.Box W1 (w.heap.size + 1) ⟨11, i, t⟩ := by rw [hW1]; have := Nt.Box.new (w.alloc (.cells #[.slice m.lA m.l.length m.lC, .int .i64 m.m] 31)) ⟨11, i, t⟩ 53; simpa using this
  clear hx x
  unfold Im.val
  obtain ⟨j, rfl⟩ : ∃ j : Nat, i = j := ⟨i.toNat, by omega⟩
  rw [Int.toNat_natCast] at hl
  have hcs := (Im.E_in (hin.below (b1.mono hB))).l
  obtain ⟨cb, co, eC, hblk, _, _, c2, _, _⟩ := Cd.at_ hcs (i := j) (x := m.l[j]) (List.getElem?_eq_getElem hl)
  rw [← Cd.at'_get hl] at c2
  obtain ⟨V, hV⟩ : ∃ V, V = (Cd.at' m.l (j : Int)).c := ⟨_, rfl⟩
  rw [← hV] at c2 ⊢
  clear hV
  obtain ⟨a0, a1⟩ := xa
  obtain ⟨d0, d1, d2, d3, d4, d5⟩ := xb
  rw [eC] at a0
  clear eC
  have lj : (j : Int) < (m.l.length : Int) := by omega
  have lb : cb < W1.heap.size := by omega
  go_enter Try.func47, Try.ntmps47
  go_upto_region 1 with fail
  rw [← hW1]
  clear hW1
  go_wp2_with fail
  go_ret2
  exact ⟨rfl, b1⟩

set_option maxRecDepth 100000 in
set_option maxHeartbeats 1000000 in
theorem specEff_12 (m : Im) (i : Int) (t : D) (B : Nat) (w : World) (hi0 : 0 ≤ i) (hi1 : i ≤ 4000) (_hin : Im.E.In w B m) (_hB : B ≤ w.heap.size) :
    Calls Try.prog 47 #[Im.val m, .agg #[.int .i64 12, .int .i64 i, .int .i64 t.k, .int .i64 t.n, .string t.t, .slice t.A t.l.length t.c]] w fun e w' => e = .returned (.tuple #[.int .i64 (i + 1), .int .i64 (1)]) ∧ Below w.heap.size w w' := by
  obtain ⟨x, hx⟩ : ∃ x : Nt, x = ⟨12, i, t⟩ := ⟨_, rfl⟩
  obtain ⟨W1, hW1⟩ : ∃ W1, W1 = (w.alloc (.cells #[.slice m.lA m.l.length m.lC, .int .i64 m.m] 31)).alloc (.cells #[.int .i64 12, .int .i64 i, .int .i64 t.k, .int .i64 t.n, .string t.t, .slice t.A t.l.length t.c] 53) := ⟨_, rfl⟩
  have b1 : Below w.heap.size w W1 := by rw [hW1]; exact ((Below.refl _ _).alloc (Nat.le_refl _) _).alloc (by simp) _
  have z1 : w.heap.size + 2 ≤ W1.heap.size := by rw [hW1]; simp
  have xa : Im.Box W1 w.heap.size m := by rw [hW1]; exact (Im.Box.new w m _).below ((Below.refl (w.heap.size + 1) _).alloc (by simp) _) (by omega)
  have xb : Nt.Box W1 (w.heap.size + 1) ⟨12, i, t⟩ := by rw [hW1]; have := Nt.Box.new (w.alloc (.cells #[.slice m.lA m.l.length m.lC, .int .i64 m.m] 31)) ⟨12, i, t⟩ 53; simpa using this
  clear hx x
  unfold Im.val
  obtain ⟨a0, a1⟩ := xa
  obtain ⟨d0, d1, d2, d3, d4, d5⟩ := xb
  go_enter Try.func47, Try.ntmps47
  go_upto_region 1 with fail
  rw [← hW1]
  clear hW1
  go_wp2_with fail
  go_ret2
  exact ⟨rfl, b1⟩

set_option maxRecDepth 100000 in
set_option maxHeartbeats 1000000 in
theorem specEff_13 (m : Im) (i : Int) (t : D) (B : Nat) (w : World) (hi0 : 0 ≤ i) (hi1 : i ≤ 4000) (_hin : Im.E.In w B m) (_hB : B ≤ w.heap.size) :
    Calls Try.prog 47 #[Im.val m, .agg #[.int .i64 13, .int .i64 i, .int .i64 t.k, .int .i64 t.n, .string t.t, .slice t.A t.l.length t.c]] w fun e w' => e = .returned (.tuple #[.int .i64 (i + 1), .int .i64 (0)]) ∧ Below w.heap.size w w' := by
  obtain ⟨x, hx⟩ : ∃ x : Nt, x = ⟨13, i, t⟩ := ⟨_, rfl⟩
  obtain ⟨W1, hW1⟩ : ∃ W1, W1 = (w.alloc (.cells #[.slice m.lA m.l.length m.lC, .int .i64 m.m] 31)).alloc (.cells #[.int .i64 13, .int .i64 i, .int .i64 t.k, .int .i64 t.n, .string t.t, .slice t.A t.l.length t.c] 53) := ⟨_, rfl⟩
  have b1 : Below w.heap.size w W1 := by rw [hW1]; exact ((Below.refl _ _).alloc (Nat.le_refl _) _).alloc (by simp) _
  have z1 : w.heap.size + 2 ≤ W1.heap.size := by rw [hW1]; simp
  have xa : Im.Box W1 w.heap.size m := by rw [hW1]; exact (Im.Box.new w m _).below ((Below.refl (w.heap.size + 1) _).alloc (by simp) _) (by omega)
  have xb : Nt.Box W1 (w.heap.size + 1) ⟨13, i, t⟩ := by rw [hW1]; have := Nt.Box.new (w.alloc (.cells #[.slice m.lA m.l.length m.lC, .int .i64 m.m] 31)) ⟨13, i, t⟩ 53; simpa using this
  clear hx x
  unfold Im.val
  obtain ⟨a0, a1⟩ := xa
  obtain ⟨d0, d1, d2, d3, d4, d5⟩ := xb
  go_enter Try.func47, Try.ntmps47
  go_upto_region 1 with fail
  rw [← hW1]
  clear hW1
  go_wp2_with fail
  go_ret2
  exact ⟨rfl, b1⟩

set_option maxRecDepth 100000 in
set_option maxHeartbeats 1000000 in
theorem specEff_14 (m : Im) (i : Int) (t : D) (B : Nat) (w : World) (_hi0 : 0 ≤ i) (_hi1 : i ≤ 4000) (_hin : Im.E.In w B m) (_hB : B ≤ w.heap.size) :
    Calls Try.prog 47 #[Im.val m, .agg #[.int .i64 14, .int .i64 i, .int .i64 t.k, .int .i64 t.n, .string t.t, .slice t.A t.l.length t.c]] w fun e w' => e = .returned (.tuple #[.int .i64 (1), .int .i64 (0)]) ∧ Below w.heap.size w w' := by
  obtain ⟨x, hx⟩ : ∃ x : Nt, x = ⟨14, i, t⟩ := ⟨_, rfl⟩
  obtain ⟨W1, hW1⟩ : ∃ W1, W1 = (w.alloc (.cells #[.slice m.lA m.l.length m.lC, .int .i64 m.m] 31)).alloc (.cells #[.int .i64 14, .int .i64 i, .int .i64 t.k, .int .i64 t.n, .string t.t, .slice t.A t.l.length t.c] 53) := ⟨_, rfl⟩
  have b1 : Below w.heap.size w W1 := by rw [hW1]; exact ((Below.refl _ _).alloc (Nat.le_refl _) _).alloc (by simp) _
  have z1 : w.heap.size + 2 ≤ W1.heap.size := by rw [hW1]; simp
  have xa : Im.Box W1 w.heap.size m := by rw [hW1]; exact (Im.Box.new w m _).below ((Below.refl (w.heap.size + 1) _).alloc (by simp) _) (by omega)
  have xb : Nt.Box W1 (w.heap.size + 1) ⟨14, i, t⟩ := by rw [hW1]; have := Nt.Box.new (w.alloc (.cells #[.slice m.lA m.l.length m.lC, .int .i64 m.m] 31)) ⟨14, i, t⟩ 53; simpa using this
  clear hx x
  unfold Im.val
  obtain ⟨a0, a1⟩ := xa
  obtain ⟨d0, d1, d2, d3, d4, d5⟩ := xb
  go_enter Try.func47, Try.ntmps47
  go_upto_region 1 with fail
  rw [← hW1]
  clear hW1
  go_wp2_with fail
  go_ret2
  exact ⟨rfl, b1⟩

set_option maxRecDepth 100000 in
set_option maxHeartbeats 1000000 in
theorem specEff_15 (m : Im) (i : Int) (t : D) (B : Nat) (w : World) (_hi0 : 0 ≤ i) (_hi1 : i ≤ 4000) (_hin : Im.E.In w B m) (_hB : B ≤ w.heap.size) :
    Calls Try.prog 47 #[Im.val m, .agg #[.int .i64 15, .int .i64 i, .int .i64 t.k, .int .i64 t.n, .string t.t, .slice t.A t.l.length t.c]] w fun e w' => e = .returned (.tuple #[.int .i64 (0), .int .i64 (0)]) ∧ Below w.heap.size w w' := by
  obtain ⟨x, hx⟩ : ∃ x : Nt, x = ⟨15, i, t⟩ := ⟨_, rfl⟩
  obtain ⟨W1, hW1⟩ : ∃ W1, W1 = (w.alloc (.cells #[.slice m.lA m.l.length m.lC, .int .i64 m.m] 31)).alloc (.cells #[.int .i64 15, .int .i64 i, .int .i64 t.k, .int .i64 t.n, .string t.t, .slice t.A t.l.length t.c] 53) := ⟨_, rfl⟩
  have b1 : Below w.heap.size w W1 := by rw [hW1]; exact ((Below.refl _ _).alloc (Nat.le_refl _) _).alloc (by simp) _
  have z1 : w.heap.size + 2 ≤ W1.heap.size := by rw [hW1]; simp
  have xa : Im.Box W1 w.heap.size m := by rw [hW1]; exact (Im.Box.new w m _).below ((Below.refl (w.heap.size + 1) _).alloc (by simp) _) (by omega)
  have xb : Nt.Box W1 (w.heap.size + 1) ⟨15, i, t⟩ := by rw [hW1]; have := Nt.Box.new (w.alloc (.cells #[.slice m.lA m.l.length m.lC, .int .i64 m.m] 31)) ⟨15, i, t⟩ 53; simpa using this
  clear hx x
  unfold Im.val
  obtain ⟨a0, a1⟩ := xa
  obtain ⟨d0, d1, d2, d3, d4, d5⟩ := xb
  go_enter Try.func47, Try.ntmps47
  go_upto_region 1 with fail
  rw [← hW1]
  clear hW1
  go_wp2_with fail
  go_ret2
  exact ⟨rfl, b1⟩

set_option maxRecDepth 100000 in
set_option maxHeartbeats 1000000 in
theorem specEff_16 (m : Im) (i : Int) (t : D) (B : Nat) (w : World) (_hi0 : 0 ≤ i) (_hi1 : i ≤ 4000) (_hin : Im.E.In w B m) (_hB : B ≤ w.heap.size) :
    Calls Try.prog 47 #[Im.val m, .agg #[.int .i64 16, .int .i64 i, .int .i64 t.k, .int .i64 t.n, .string t.t, .slice t.A t.l.length t.c]] w fun e w' => e = .returned (.tuple #[.int .i64 (1), .int .i64 (0)]) ∧ Below w.heap.size w w' := by
  obtain ⟨x, hx⟩ : ∃ x : Nt, x = ⟨16, i, t⟩ := ⟨_, rfl⟩
  obtain ⟨W1, hW1⟩ : ∃ W1, W1 = (w.alloc (.cells #[.slice m.lA m.l.length m.lC, .int .i64 m.m] 31)).alloc (.cells #[.int .i64 16, .int .i64 i, .int .i64 t.k, .int .i64 t.n, .string t.t, .slice t.A t.l.length t.c] 53) := ⟨_, rfl⟩
  have b1 : Below w.heap.size w W1 := by rw [hW1]; exact ((Below.refl _ _).alloc (Nat.le_refl _) _).alloc (by simp) _
  have z1 : w.heap.size + 2 ≤ W1.heap.size := by rw [hW1]; simp
  have xa : Im.Box W1 w.heap.size m := by rw [hW1]; exact (Im.Box.new w m _).below ((Below.refl (w.heap.size + 1) _).alloc (by simp) _) (by omega)
  have xb : Nt.Box W1 (w.heap.size + 1) ⟨16, i, t⟩ := by rw [hW1]; have := Nt.Box.new (w.alloc (.cells #[.slice m.lA m.l.length m.lC, .int .i64 m.m] 31)) ⟨16, i, t⟩ 53; simpa using this
  clear hx x
  unfold Im.val
  obtain ⟨a0, a1⟩ := xa
  obtain ⟨d0, d1, d2, d3, d4, d5⟩ := xb
  go_enter Try.func47, Try.ntmps47
  go_upto_region 1 with fail
  rw [← hW1]
  clear hW1
  go_wp2_with fail
  go_ret2
  exact ⟨rfl, b1⟩

set_option maxRecDepth 100000 in
set_option maxHeartbeats 1000000 in
theorem specEff_17 (m : Im) (i : Int) (t : D) (B : Nat) (w : World) (_hi0 : 0 ≤ i) (_hi1 : i ≤ 4000) (_hin : Im.E.In w B m) (_hB : B ≤ w.heap.size) :
    Calls Try.prog 47 #[Im.val m, .agg #[.int .i64 17, .int .i64 i, .int .i64 t.k, .int .i64 t.n, .string t.t, .slice t.A t.l.length t.c]] w fun e w' => e = .returned (.tuple #[.int .i64 (1), .int .i64 (0)]) ∧ Below w.heap.size w w' := by
  obtain ⟨x, hx⟩ : ∃ x : Nt, x = ⟨17, i, t⟩ := ⟨_, rfl⟩
  obtain ⟨W1, hW1⟩ : ∃ W1, W1 = (w.alloc (.cells #[.slice m.lA m.l.length m.lC, .int .i64 m.m] 31)).alloc (.cells #[.int .i64 17, .int .i64 i, .int .i64 t.k, .int .i64 t.n, .string t.t, .slice t.A t.l.length t.c] 53) := ⟨_, rfl⟩
  have b1 : Below w.heap.size w W1 := by rw [hW1]; exact ((Below.refl _ _).alloc (Nat.le_refl _) _).alloc (by simp) _
  have z1 : w.heap.size + 2 ≤ W1.heap.size := by rw [hW1]; simp
  have xa : Im.Box W1 w.heap.size m := by rw [hW1]; exact (Im.Box.new w m _).below ((Below.refl (w.heap.size + 1) _).alloc (by simp) _) (by omega)
  have xb : Nt.Box W1 (w.heap.size + 1) ⟨17, i, t⟩ := by rw [hW1]; have := Nt.Box.new (w.alloc (.cells #[.slice m.lA m.l.length m.lC, .int .i64 m.m] 31)) ⟨17, i, t⟩ 53; simpa using this
  clear hx x
  unfold Im.val
  obtain ⟨a0, a1⟩ := xa
  obtain ⟨d0, d1, d2, d3, d4, d5⟩ := xb
  go_enter Try.func47, Try.ntmps47
  go_upto_region 1 with fail
  rw [← hW1]
  clear hW1
  go_wp2_with fail
  go_ret2
  exact ⟨rfl, b1⟩

set_option maxRecDepth 100000 in
set_option maxHeartbeats 1000000 in
theorem specEff_18 (m : Im) (i : Int) (t : D) (B : Nat) (w : World) (hi0 : 0 ≤ i) (hi1 : i ≤ 4000) (hl : i.toNat < m.l.length) (hin : Im.E.In w B m) (hB : B ≤ w.heap.size) :
    Calls Try.prog 47 #[Im.val m, .agg #[.int .i64 18, .int .i64 i, .int .i64 t.k, .int .i64 t.n, .string t.t, .slice t.A t.l.length t.c]] w fun e w' => e = .returned (.tuple #[.int .i64 ((Cd.at' m.l i).c), .int .i64 (1)]) ∧ Below w.heap.size w w' := by
  obtain ⟨x, hx⟩ : ∃ x : Nt, x = ⟨18, i, t⟩ := ⟨_, rfl⟩
  obtain ⟨W1, hW1⟩ : ∃ W1, W1 = (w.alloc (.cells #[.slice m.lA m.l.length m.lC, .int .i64 m.m] 31)).alloc (.cells #[.int .i64 18, .int .i64 i, .int .i64 t.k, .int .i64 t.n, .string t.t, .slice t.A t.l.length t.c] 53) := ⟨_, rfl⟩
  have b1 : Below w.heap.size w W1 := by rw [hW1]; exact ((Below.refl _ _).alloc (Nat.le_refl _) _).alloc (by simp) _
  have z1 : w.heap.size + 2 ≤ W1.heap.size := by rw [hW1]; simp
  have xa : Im.Box W1 w.heap.size m := by rw [hW1]; exact (Im.Box.new w m _).below ((Below.refl (w.heap.size + 1) _).alloc (by simp) _) (by omega)
  have xb : Nt.Box W1 (w.heap.size + 1) ⟨18, i, t⟩ := by rw [hW1]; have := Nt.Box.new (w.alloc (.cells #[.slice m.lA m.l.length m.lC, .int .i64 m.m] 31)) ⟨18, i, t⟩ 53; simpa using this
  clear hx x
  unfold Im.val
  obtain ⟨j, rfl⟩ : ∃ j : Nat, i = j := ⟨i.toNat, by omega⟩
  rw [Int.toNat_natCast] at hl
  have hcs := (Im.E_in (hin.below (b1.mono hB))).l
  obtain ⟨cb, co, eC, hblk, _, _, c2, _, _⟩ := Cd.at_ hcs (i := j) (x := m.l[j]) (List.getElem?_eq_getElem hl)
  rw [← Cd.at'_get hl] at c2
  obtain ⟨V, hV⟩ : ∃ V, V = (Cd.at' m.l (j : Int)).c := ⟨_, rfl⟩
  rw [← hV] at c2 ⊢
  clear hV
  obtain ⟨a0, a1⟩ := xa
  obtain ⟨d0, d1, d2, d3, d4, d5⟩ := xb
  rw [eC] at a0
  clear eC
  have lj : (j : Int) < (m.l.length : Int) := by omega
  have lb : cb < W1.heap.size := by omega
  go_enter Try.func47, Try.ntmps47
  go_upto_region 1 with fail
  rw [← hW1]
  clear hW1
  go_wp2_with fail
  go_ret2
  exact ⟨rfl, b1⟩

set_option maxRecDepth 100000 in
set_option maxHeartbeats 1000000 in
theorem specEff_19 (m : Im) (i : Int) (t : D) (B : Nat) (w : World) (hi0 : 0 ≤ i) (hi1 : i ≤ 4000) (hl : i.toNat < m.l.length) (hin : Im.E.In w B m) (hB : B ≤ w.heap.size) :
    Calls Try.prog 47 #[Im.val m, .agg #[.int .i64 19, .int .i64 i, .int .i64 t.k, .int .i64 t.n, .string t.t, .slice t.A t.l.length t.c]] w fun e w' => e = .returned (.tuple #[.int .i64 ((Cd.at' m.l i).c), .int .i64 (1)]) ∧ Below w.heap.size w w' := by
  obtain ⟨x, hx⟩ : ∃ x : Nt, x = ⟨19, i, t⟩ := ⟨_, rfl⟩
  obtain ⟨W1, hW1⟩ : ∃ W1, W1 = (w.alloc (.cells #[.slice m.lA m.l.length m.lC, .int .i64 m.m] 31)).alloc (.cells #[.int .i64 19, .int .i64 i, .int .i64 t.k, .int .i64 t.n, .string t.t, .slice t.A t.l.length t.c] 53) := ⟨_, rfl⟩
  have b1 : Below w.heap.size w W1 := by rw [hW1]; exact ((Below.refl _ _).alloc (Nat.le_refl _) _).alloc (by simp) _
  have z1 : w.heap.size + 2 ≤ W1.heap.size := by rw [hW1]; simp
  have xa : Im.Box W1 w.heap.size m := by rw [hW1]; exact (Im.Box.new w m _).below ((Below.refl (w.heap.size + 1) _).alloc (by simp) _) (by omega)
  have xb : Nt.Box W1 (w.heap.size + 1) ⟨19, i, t⟩ := by rw [hW1]; have := Nt.Box.new (w.alloc (.cells #[.slice m.lA m.l.length m.lC, .int .i64 m.m] 31)) ⟨19, i, t⟩ 53; simpa using this
  clear hx x
  unfold Im.val
  obtain ⟨j, rfl⟩ : ∃ j : Nat, i = j := ⟨i.toNat, by omega⟩
  rw [Int.toNat_natCast] at hl
  have hcs := (Im.E_in (hin.below (b1.mono hB))).l
  obtain ⟨cb, co, eC, hblk, _, _, c2, _, _⟩ := Cd.at_ hcs (i := j) (x := m.l[j]) (List.getElem?_eq_getElem hl)
  rw [← Cd.at'_get hl] at c2
  obtain ⟨V, hV⟩ : ∃ V, V = (Cd.at' m.l (j : Int)).c := ⟨_, rfl⟩
  rw [← hV] at c2 ⊢
  clear hV
  obtain ⟨a0, a1⟩ := xa
  obtain ⟨d0, d1, d2, d3, d4, d5⟩ := xb
  rw [eC] at a0
  clear eC
  have lj : (j : Int) < (m.l.length : Int) := by omega
  have lb : cb < W1.heap.size := by omega
  go_enter Try.func47, Try.ntmps47
  go_upto_region 1 with fail
  rw [← hW1]
  clear hW1
  go_wp2_with fail
  go_ret2
  exact ⟨rfl, b1⟩

set_option maxRecDepth 100000 in
set_option maxHeartbeats 1000000 in
theorem specEff_20 (m : Im) (i : Int) (t : D) (B : Nat) (w : World) (hi0 : 0 ≤ i) (hi1 : i ≤ 4000) (hl : i.toNat < m.l.length) (hin : Im.E.In w B m) (hB : B ≤ w.heap.size) :
    Calls Try.prog 47 #[Im.val m, .agg #[.int .i64 20, .int .i64 i, .int .i64 t.k, .int .i64 t.n, .string t.t, .slice t.A t.l.length t.c]] w fun e w' => e = .returned (.tuple #[.int .i64 ((Cd.at' m.l i).c), .int .i64 (1)]) ∧ Below w.heap.size w w' := by
  obtain ⟨x, hx⟩ : ∃ x : Nt, x = ⟨20, i, t⟩ := ⟨_, rfl⟩
  obtain ⟨W1, hW1⟩ : ∃ W1, W1 = (w.alloc (.cells #[.slice m.lA m.l.length m.lC, .int .i64 m.m] 31)).alloc (.cells #[.int .i64 20, .int .i64 i, .int .i64 t.k, .int .i64 t.n, .string t.t, .slice t.A t.l.length t.c] 53) := ⟨_, rfl⟩
  have b1 : Below w.heap.size w W1 := by rw [hW1]; exact ((Below.refl _ _).alloc (Nat.le_refl _) _).alloc (by simp) _
  have z1 : w.heap.size + 2 ≤ W1.heap.size := by rw [hW1]; simp
  have xa : Im.Box W1 w.heap.size m := by rw [hW1]; exact (Im.Box.new w m _).below ((Below.refl (w.heap.size + 1) _).alloc (by simp) _) (by omega)
  have xb : Nt.Box W1 (w.heap.size + 1) ⟨20, i, t⟩ := by rw [hW1]; have := Nt.Box.new (w.alloc (.cells #[.slice m.lA m.l.length m.lC, .int .i64 m.m] 31)) ⟨20, i, t⟩ 53; simpa using this
  clear hx x
  unfold Im.val
  obtain ⟨j, rfl⟩ : ∃ j : Nat, i = j := ⟨i.toNat, by omega⟩
  rw [Int.toNat_natCast] at hl
  have hcs := (Im.E_in (hin.below (b1.mono hB))).l
  obtain ⟨cb, co, eC, hblk, _, _, c2, _, _⟩ := Cd.at_ hcs (i := j) (x := m.l[j]) (List.getElem?_eq_getElem hl)
  rw [← Cd.at'_get hl] at c2
  obtain ⟨V, hV⟩ : ∃ V, V = (Cd.at' m.l (j : Int)).c := ⟨_, rfl⟩
  rw [← hV] at c2 ⊢
  clear hV
  obtain ⟨a0, a1⟩ := xa
  obtain ⟨d0, d1, d2, d3, d4, d5⟩ := xb
  rw [eC] at a0
  clear eC
  have lj : (j : Int) < (m.l.length : Int) := by omega
  have lb : cb < W1.heap.size := by omega
  go_enter Try.func47, Try.ntmps47
  go_upto_region 1 with fail
  rw [← hW1]
  clear hW1
  go_wp2_with fail
  go_ret2
  exact ⟨rfl, b1⟩
theorem specEff_any (m : Im) (x : Nt) (B : Nat) (w : World) (ho : 1 ≤ x.o ∧ x.o ≤ 20) (hi0 : 0 ≤ x.i) (hi1 : x.i ≤ 4000) (hl : x.o = 11 ∨ 18 ≤ x.o → x.i.toNat < m.l.length) (hin : Im.E.In w B m) (hB : B ≤ w.heap.size) :
    Calls Try.prog 47 #[Im.val m, Nt.val x] w fun e w' => e = .returned (.tuple #[.int .i64 (x.eff m.l).1, .int .i64 (x.eff m.l).2]) ∧ Below w.heap.size w w' := by
  obtain ⟨o, i, t⟩ := x
  obtain ⟨k, rfl⟩ : ∃ k : Nat, o = k := ⟨o.toNat, by have := ho.1; dsimp only at this; omega⟩
  have hk : k < 21 := by have := ho.2; dsimp only at this; omega
  have hk0 : 0 < k := by have := ho.1; dsimp only at this; omega
  dsimp only at hi0 hi1 hl
  match k, hk, hk0 with
  | 1, _, _ => exact (specEff_1 m i t B w hi0 hi1 hin hB)
  | 2, _, _ => exact (specEff_2 m i t B w hi0 hi1 hin hB)
  | 3, _, _ => exact (specEff_3 m i t B w hi0 hi1 hin hB)
  | 4, _, _ => exact (specEff_4 m i t B w hi0 hi1 hin hB)
  | 5, _, _ => exact (specEff_5 m i t B w hi0 hi1 hin hB)
  | 6, _, _ => exact (specEff_6 m i t B w hi0 hi1 hin hB)
  | 7, _, _ => exact (specEff_7 m i t B w hi0 hi1 hin hB)
  | 8, _, _ => exact (specEff_8 m i t B w hi0 hi1 hin hB)
  | 9, _, _ => exact (specEff_9 m i t B w hi0 hi1 hin hB)
  | 10, _, _ => exact (specEff_10 m i t B w hi0 hi1 hin hB)
  | 11, _, _ => exact (specEff_11 m i t B w hi0 hi1 (hl (by decide)) hin hB)
  | 12, _, _ => exact (specEff_12 m i t B w hi0 hi1 hin hB)
  | 13, _, _ => exact (specEff_13 m i t B w hi0 hi1 hin hB)
  | 14, _, _ => exact (specEff_14 m i t B w hi0 hi1 hin hB)
  | 15, _, _ => exact (specEff_15 m i t B w hi0 hi1 hin hB)
  | 16, _, _ => exact (specEff_16 m i t B w hi0 hi1 hin hB)
  | 17, _, _ => exact (specEff_17 m i t B w hi0 hi1 hin hB)
  | 18, _, _ => exact (specEff_18 m i t B w hi0 hi1 (hl (by decide)) hin hB)
  | 19, _, _ => exact (specEff_19 m i t B w hi0 hi1 (hl (by decide)) hin hB)
  | 20, _, _ => exact (specEff_20 m i t B w hi0 hi1 (hl (by decide)) hin hB)
  | n + 21, hn, _ => exact absurd hn (by omega)
end Go.Proofs.Ytpigpncbjckbcaa
