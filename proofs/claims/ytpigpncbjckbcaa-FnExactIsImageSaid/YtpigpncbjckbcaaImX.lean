/-
  Whether an instruction names what there is: the model (written by gen/imw.py).
-/
import Derived.Test.YtpigpncbjckbcaaImW
import Derived.Deep.DeepCutAuto
namespace Go.Proofs.Ytpigpncbjckbcaa
open Go.RowKit


set_option maxRecDepth 100000 in
set_option maxHeartbeats 1000000 in
theorem specWi_1 (m : Im) (c : Cd) (k : Nat) (i : Int) (t : D) (B : Nat) (w : World) (hc : m.l[k]? = some c) (_hi0 : 0 ≤ i) (_hi1 : i ≤ 4000) (hin : Im.E.In w B m) (hB : B ≤ w.heap.size) :
    Calls Try.prog 46 #[Im.val m, .int .i64 (k : Int), .agg #[.int .i64 1, .int .i64 i, .int .i64 t.k, .int .i64 t.n, .string t.t, .slice t.A t.l.length t.c]] w fun e w' => e = .returned (.bool (wthn true m.l k c 1 i)) ∧ Below w.heap.size w w' := by
  obtain ⟨W1, hW1⟩ : ∃ W1, W1 = (w.alloc (.cells #[.slice m.lA m.l.length m.lC, .int .i64 m.m] 31)).alloc (.cells #[.int .i64 1, .int .i64 i, .int .i64 t.k, .int .i64 t.n, .string t.t, .slice t.A t.l.length t.c] 53) := ⟨_, rfl⟩
  have b1 : Below w.heap.size w W1 := by rw [hW1]; exact ((Below.refl _ _).alloc (Nat.le_refl _) _).alloc (by simp) _
  have z1 : w.heap.size + 2 ≤ W1.heap.size := by rw [hW1]; simp
  have xa : Im.Box W1 w.heap.size m := by rw [hW1]; exact (Im.Box.new w m _).below ((Below.refl (w.heap.size + 1) _).alloc (by simp) _) (by omega)
  have xb : Nt.Box W1 (w.heap.size + 1) ⟨1, i, t⟩ := by rw [hW1]; have := Nt.Box.new (w.alloc (.cells #[.slice m.lA m.l.length m.lC, .int .i64 m.m] 31)) ⟨1, i, t⟩ 53; simpa using this
  unfold Im.val
  have hcs := (Im.E_in (hin.below (b1.mono hB))).l
  have hkl : k < m.l.length := (List.getElem?_eq_some_iff.1 hc).1
  obtain ⟨cb, co, eC, hblk, c0, c1, c2, c3, _⟩ := Cd.at_ hcs (i := k) (x := c) hc
  obtain ⟨W2, hW2⟩ : ∃ W2, W2 = W1.alloc (.cells #[.int .i64 c.p, .int .i64 c.s, .int .i64 c.c, .slice c.lA c.l.length c.lC] 48) := ⟨_, rfl⟩
  have b2 : Below W1.heap.size W1 W2 := by rw [hW2]; exact (Below.refl _ _).alloc (Nat.le_refl _) _
  have z2 : W1.heap.size + 1 ≤ W2.heap.size := by rw [hW2]; simp
  have xc : Cd.Box W2 W1.heap.size c := by rw [hW2]; exact Cd.Box.new _ _ _
  have XA := Lib.hid (xa.below b2 (by omega))
  have XB := Lib.hid (xb.below b2 (by omega))
  have HC2 := Lib.hid (hcs.below (b2.mono (by omega)))
  have b3 : Below w.heap.size w W2 := b1.trans (b2.mono (by omega))
  have hcap := hcs.cap
  obtain ⟨a0, a1⟩ := xa
  obtain ⟨d0, d1, d2, d3, d4, d5⟩ := xb
  rw [eC] at a0
  have EC := Lib.hid eC
  clear eC
  have lk0 : (0 : Int) ≤ (k : Int) := by omega
  have lk : (k : Int) < (m.l.length : Int) := by omega
  have lb : cb < W1.heap.size := by omega
  have la : w.heap.size < W1.heap.size := by omega
  have lx : w.heap.size + 1 < W1.heap.size := by omega
  go_enter Try.func46, Try.ntmps46
  go_upto_region 1 with fail
  rw [← hW1]
  clear hW1
  go_upto_region 2 with fail
  rw [← hW2]
  clear hW2 a0 a1 d0 d1 d2 d3 d4 d5 c0 c1 c2 c3 lb la lx
  obtain ⟨a0, a1⟩ := XA.out
  obtain ⟨d0, d1, d2, d3, d4, d5⟩ := XB.out
  obtain ⟨c0, c1, c2, c3⟩ := xc
  have HQ : Hid (wthn true m.l k c 1 i = true) := by show _ = _; simp [wthn]
  go_wp2_with fail
  go_ret
  exact ⟨ret_bool HQ.out.symm, b3⟩

set_option maxRecDepth 100000 in
set_option maxHeartbeats 1000000 in
theorem specWi_2 (m : Im) (c : Cd) (k : Nat) (i : Int) (t : D) (B : Nat) (w : World) (hc : m.l[k]? = some c) (_hi0 : 0 ≤ i) (_hi1 : i ≤ 4000) (hin : Im.E.In w B m) (hB : B ≤ w.heap.size) :
    Calls Try.prog 46 #[Im.val m, .int .i64 (k : Int), .agg #[.int .i64 2, .int .i64 i, .int .i64 t.k, .int .i64 t.n, .string t.t, .slice t.A t.l.length t.c]] w fun e w' => e = .returned (.bool (wthn true m.l k c 2 i)) ∧ Below w.heap.size w w' := by
  obtain ⟨W1, hW1⟩ : ∃ W1, W1 = (w.alloc (.cells #[.slice m.lA m.l.length m.lC, .int .i64 m.m] 31)).alloc (.cells #[.int .i64 2, .int .i64 i, .int .i64 t.k, .int .i64 t.n, .string t.t, .slice t.A t.l.length t.c] 53) := ⟨_, rfl⟩
  have b1 : Below w.heap.size w W1 := by rw [hW1]; exact ((Below.refl _ _).alloc (Nat.le_refl _) _).alloc (by simp) _
  have z1 : w.heap.size + 2 ≤ W1.heap.size := by rw [hW1]; simp
  have xa : Im.Box W1 w.heap.size m := by rw [hW1]; exact (Im.Box.new w m _).below ((Below.refl (w.heap.size + 1) _).alloc (by simp) _) (by omega)
  have xb : Nt.Box W1 (w.heap.size + 1) ⟨2, i, t⟩ := by rw [hW1]; have := Nt.Box.new (w.alloc (.cells #[.slice m.lA m.l.length m.lC, .int .i64 m.m] 31)) ⟨2, i, t⟩ 53; simpa using this
  unfold Im.val
  have hcs := (Im.E_in (hin.below (b1.mono hB))).l
  have hkl : k < m.l.length := (List.getElem?_eq_some_iff.1 hc).1
  obtain ⟨cb, co, eC, hblk, c0, c1, c2, c3, _⟩ := Cd.at_ hcs (i := k) (x := c) hc
  obtain ⟨W2, hW2⟩ : ∃ W2, W2 = W1.alloc (.cells #[.int .i64 c.p, .int .i64 c.s, .int .i64 c.c, .slice c.lA c.l.length c.lC] 48) := ⟨_, rfl⟩
  have b2 : Below W1.heap.size W1 W2 := by rw [hW2]; exact (Below.refl _ _).alloc (Nat.le_refl _) _
  have z2 : W1.heap.size + 1 ≤ W2.heap.size := by rw [hW2]; simp
  have xc : Cd.Box W2 W1.heap.size c := by rw [hW2]; exact Cd.Box.new _ _ _
  have XA := Lib.hid (xa.below b2 (by omega))
  have XB := Lib.hid (xb.below b2 (by omega))
  have HC2 := Lib.hid (hcs.below (b2.mono (by omega)))
  have b3 : Below w.heap.size w W2 := b1.trans (b2.mono (by omega))
  have hcap := hcs.cap
  obtain ⟨a0, a1⟩ := xa
  obtain ⟨d0, d1, d2, d3, d4, d5⟩ := xb
  rw [eC] at a0
  have EC := Lib.hid eC
  clear eC
  have lk0 : (0 : Int) ≤ (k : Int) := by omega
  have lk : (k : Int) < (m.l.length : Int) := by omega
  have lb : cb < W1.heap.size := by omega
  have la : w.heap.size < W1.heap.size := by omega
  have lx : w.heap.size + 1 < W1.heap.size := by omega
  go_enter Try.func46, Try.ntmps46
  go_upto_region 1 with fail
  rw [← hW1]
  clear hW1
  go_upto_region 2 with fail
  rw [← hW2]
  clear hW2 a0 a1 d0 d1 d2 d3 d4 d5 c0 c1 c2 c3 lb la lx
  obtain ⟨a0, a1⟩ := XA.out
  obtain ⟨d0, d1, d2, d3, d4, d5⟩ := XB.out
  obtain ⟨c0, c1, c2, c3⟩ := xc
  have HQ : Hid (wthn true m.l k c 2 i = decide (i < 14)) := by show _ = _; simp [wthn]
  clear a0 a1 c0 c1 c2 c3 d2 d3 d4 d5
  go_wp2_with fail
  first | go_region_with (first | (go_at_call 64; (with_reducible refine (sprimM_x _).mono ?_); rintro e w5 ⟨rfl, _, hb5⟩; have hb6 : Below W2.heap.size W2 w5 := (by first | exact below_undrew hb5 | exact hb5); have d1 := (hb6.cell (p := ⟨w.heap.size + 1, 1, none⟩) (show w.heap.size + 1 < W2.heap.size by omega)).trans d1)) | fail
  all_goals go_wp2_with fail
  all_goals go_ret
  all_goals exact ⟨ret_bool HQ.out.symm, b3.trans (hb6.mono (by omega))⟩

set_option maxRecDepth 100000 in
set_option maxHeartbeats 1000000 in
theorem specWi_3 (m : Im) (c : Cd) (k : Nat) (i : Int) (t : D) (B : Nat) (w : World) (hc : m.l[k]? = some c) (_hi0 : 0 ≤ i) (_hi1 : i ≤ 4000) (hin : Im.E.In w B m) (hB : B ≤ w.heap.size) :
    Calls Try.prog 46 #[Im.val m, .int .i64 (k : Int), .agg #[.int .i64 3, .int .i64 i, .int .i64 t.k, .int .i64 t.n, .string t.t, .slice t.A t.l.length t.c]] w fun e w' => e = .returned (.bool (wthn true m.l k c 3 i)) ∧ Below w.heap.size w w' := by
  obtain ⟨W1, hW1⟩ : ∃ W1, W1 = (w.alloc (.cells #[.slice m.lA m.l.length m.lC, .int .i64 m.m] 31)).alloc (.cells #[.int .i64 3, .int .i64 i, .int .i64 t.k, .int .i64 t.n, .string t.t, .slice t.A t.l.length t.c] 53) := ⟨_, rfl⟩
  have b1 : Below w.heap.size w W1 := by rw [hW1]; exact ((Below.refl _ _).alloc (Nat.le_refl _) _).alloc (by simp) _
  have z1 : w.heap.size + 2 ≤ W1.heap.size := by rw [hW1]; simp
  have xa : Im.Box W1 w.heap.size m := by rw [hW1]; exact (Im.Box.new w m _).below ((Below.refl (w.heap.size + 1) _).alloc (by simp) _) (by omega)
  have xb : Nt.Box W1 (w.heap.size + 1) ⟨3, i, t⟩ := by rw [hW1]; have := Nt.Box.new (w.alloc (.cells #[.slice m.lA m.l.length m.lC, .int .i64 m.m] 31)) ⟨3, i, t⟩ 53; simpa using this
  unfold Im.val
  have hcs := (Im.E_in (hin.below (b1.mono hB))).l
  have hkl : k < m.l.length := (List.getElem?_eq_some_iff.1 hc).1
  obtain ⟨cb, co, eC, hblk, c0, c1, c2, c3, _⟩ := Cd.at_ hcs (i := k) (x := c) hc
  obtain ⟨W2, hW2⟩ : ∃ W2, W2 = W1.alloc (.cells #[.int .i64 c.p, .int .i64 c.s, .int .i64 c.c, .slice c.lA c.l.length c.lC] 48) := ⟨_, rfl⟩
  have b2 : Below W1.heap.size W1 W2 := by rw [hW2]; exact (Below.refl _ _).alloc (Nat.le_refl _) _
  have z2 : W1.heap.size + 1 ≤ W2.heap.size := by rw [hW2]; simp
  have xc : Cd.Box W2 W1.heap.size c := by rw [hW2]; exact Cd.Box.new _ _ _
  have XA := Lib.hid (xa.below b2 (by omega))
  have XB := Lib.hid (xb.below b2 (by omega))
  have HC2 := Lib.hid (hcs.below (b2.mono (by omega)))
  have b3 : Below w.heap.size w W2 := b1.trans (b2.mono (by omega))
  have hcap := hcs.cap
  obtain ⟨a0, a1⟩ := xa
  obtain ⟨d0, d1, d2, d3, d4, d5⟩ := xb
  rw [eC] at a0
  have EC := Lib.hid eC
  clear eC
  have lk0 : (0 : Int) ≤ (k : Int) := by omega
  have lk : (k : Int) < (m.l.length : Int) := by omega
  have lb : cb < W1.heap.size := by omega
  have la : w.heap.size < W1.heap.size := by omega
  have lx : w.heap.size + 1 < W1.heap.size := by omega
  go_enter Try.func46, Try.ntmps46
  go_upto_region 1 with fail
  rw [← hW1]
  clear hW1
  go_upto_region 2 with fail
  rw [← hW2]
  clear hW2 a0 a1 d0 d1 d2 d3 d4 d5 c0 c1 c2 c3 lb la lx
  obtain ⟨a0, a1⟩ := XA.out
  obtain ⟨d0, d1, d2, d3, d4, d5⟩ := XB.out
  obtain ⟨c0, c1, c2, c3⟩ := xc
  have HQ : Hid (wthn true m.l k c 3 i = decide (i < c.s)) := by show _ = _; simp [wthn]
  go_wp2_with fail
  go_ret
  exact ⟨ret_bool HQ.out.symm, b3⟩

set_option maxRecDepth 100000 in
set_option maxHeartbeats 1000000 in
theorem specWi_4 (m : Im) (c : Cd) (k : Nat) (i : Int) (t : D) (B : Nat) (w : World) (hc : m.l[k]? = some c) (_hi0 : 0 ≤ i) (_hi1 : i ≤ 4000) (hin : Im.E.In w B m) (hB : B ≤ w.heap.size) :
    Calls Try.prog 46 #[Im.val m, .int .i64 (k : Int), .agg #[.int .i64 4, .int .i64 i, .int .i64 t.k, .int .i64 t.n, .string t.t, .slice t.A t.l.length t.c]] w fun e w' => e = .returned (.bool (wthn true m.l k c 4 i)) ∧ Below w.heap.size w w' := by
  obtain ⟨W1, hW1⟩ : ∃ W1, W1 = (w.alloc (.cells #[.slice m.lA m.l.length m.lC, .int .i64 m.m] 31)).alloc (.cells #[.int .i64 4, .int .i64 i, .int .i64 t.k, .int .i64 t.n, .string t.t, .slice t.A t.l.length t.c] 53) := ⟨_, rfl⟩
  have b1 : Below w.heap.size w W1 := by rw [hW1]; exact ((Below.refl _ _).alloc (Nat.le_refl _) _).alloc (by simp) _
  have z1 : w.heap.size + 2 ≤ W1.heap.size := by rw [hW1]; simp
  have xa : Im.Box W1 w.heap.size m := by rw [hW1]; exact (Im.Box.new w m _).below ((Below.refl (w.heap.size + 1) _).alloc (by simp) _) (by omega)
  have xb : Nt.Box W1 (w.heap.size + 1) ⟨4, i, t⟩ := by rw [hW1]; have := Nt.Box.new (w.alloc (.cells #[.slice m.lA m.l.length m.lC, .int .i64 m.m] 31)) ⟨4, i, t⟩ 53; simpa using this
  unfold Im.val
  have hcs := (Im.E_in (hin.below (b1.mono hB))).l
  have hkl : k < m.l.length := (List.getElem?_eq_some_iff.1 hc).1
  obtain ⟨cb, co, eC, hblk, c0, c1, c2, c3, _⟩ := Cd.at_ hcs (i := k) (x := c) hc
  obtain ⟨W2, hW2⟩ : ∃ W2, W2 = W1.alloc (.cells #[.int .i64 c.p, .int .i64 c.s, .int .i64 c.c, .slice c.lA c.l.length c.lC] 48) := ⟨_, rfl⟩
  have b2 : Below W1.heap.size W1 W2 := by rw [hW2]; exact (Below.refl _ _).alloc (Nat.le_refl _) _
  have z2 : W1.heap.size + 1 ≤ W2.heap.size := by rw [hW2]; simp
  have xc : Cd.Box W2 W1.heap.size c := by rw [hW2]; exact Cd.Box.new _ _ _
  have XA := Lib.hid (xa.below b2 (by omega))
  have XB := Lib.hid (xb.below b2 (by omega))
  have HC2 := Lib.hid (hcs.below (b2.mono (by omega)))
  have b3 : Below w.heap.size w W2 := b1.trans (b2.mono (by omega))
  have hcap := hcs.cap
  obtain ⟨a0, a1⟩ := xa
  obtain ⟨d0, d1, d2, d3, d4, d5⟩ := xb
  rw [eC] at a0
  have EC := Lib.hid eC
  clear eC
  have lk0 : (0 : Int) ≤ (k : Int) := by omega
  have lk : (k : Int) < (m.l.length : Int) := by omega
  have lb : cb < W1.heap.size := by omega
  have la : w.heap.size < W1.heap.size := by omega
  have lx : w.heap.size + 1 < W1.heap.size := by omega
  go_enter Try.func46, Try.ntmps46
  go_upto_region 1 with fail
  rw [← hW1]
  clear hW1
  go_upto_region 2 with fail
  rw [← hW2]
  clear hW2 a0 a1 d0 d1 d2 d3 d4 d5 c0 c1 c2 c3 lb la lx
  obtain ⟨a0, a1⟩ := XA.out
  obtain ⟨d0, d1, d2, d3, d4, d5⟩ := XB.out
  obtain ⟨c0, c1, c2, c3⟩ := xc
  have HQ : Hid (wthn true m.l k c 4 i = decide (i < c.c)) := by show _ = _; simp [wthn]
  go_wp2_with fail
  go_ret
  exact ⟨ret_bool HQ.out.symm, b3⟩

set_option maxRecDepth 100000 in
set_option maxHeartbeats 1000000 in
theorem specWi_5 (m : Im) (c : Cd) (k : Nat) (i : Int) (t : D) (B : Nat) (w : World) (hc : m.l[k]? = some c) (_hi0 : 0 ≤ i) (_hi1 : i ≤ 4000) (hin : Im.E.In w B m) (hB : B ≤ w.heap.size) :
    Calls Try.prog 46 #[Im.val m, .int .i64 (k : Int), .agg #[.int .i64 5, .int .i64 i, .int .i64 t.k, .int .i64 t.n, .string t.t, .slice t.A t.l.length t.c]] w fun e w' => e = .returned (.bool (wthn true m.l k c 5 i)) ∧ Below w.heap.size w w' := by
  obtain ⟨W1, hW1⟩ : ∃ W1, W1 = (w.alloc (.cells #[.slice m.lA m.l.length m.lC, .int .i64 m.m] 31)).alloc (.cells #[.int .i64 5, .int .i64 i, .int .i64 t.k, .int .i64 t.n, .string t.t, .slice t.A t.l.length t.c] 53) := ⟨_, rfl⟩
  have b1 : Below w.heap.size w W1 := by rw [hW1]; exact ((Below.refl _ _).alloc (Nat.le_refl _) _).alloc (by simp) _
  have z1 : w.heap.size + 2 ≤ W1.heap.size := by rw [hW1]; simp
  have xa : Im.Box W1 w.heap.size m := by rw [hW1]; exact (Im.Box.new w m _).below ((Below.refl (w.heap.size + 1) _).alloc (by simp) _) (by omega)
  have xb : Nt.Box W1 (w.heap.size + 1) ⟨5, i, t⟩ := by rw [hW1]; have := Nt.Box.new (w.alloc (.cells #[.slice m.lA m.l.length m.lC, .int .i64 m.m] 31)) ⟨5, i, t⟩ 53; simpa using this
  unfold Im.val
  have hcs := (Im.E_in (hin.below (b1.mono hB))).l
  have hkl : k < m.l.length := (List.getElem?_eq_some_iff.1 hc).1
  obtain ⟨cb, co, eC, hblk, c0, c1, c2, c3, _⟩ := Cd.at_ hcs (i := k) (x := c) hc
  obtain ⟨W2, hW2⟩ : ∃ W2, W2 = W1.alloc (.cells #[.int .i64 c.p, .int .i64 c.s, .int .i64 c.c, .slice c.lA c.l.length c.lC] 48) := ⟨_, rfl⟩
  have b2 : Below W1.heap.size W1 W2 := by rw [hW2]; exact (Below.refl _ _).alloc (Nat.le_refl _) _
  have z2 : W1.heap.size + 1 ≤ W2.heap.size := by rw [hW2]; simp
  have xc : Cd.Box W2 W1.heap.size c := by rw [hW2]; exact Cd.Box.new _ _ _
  have XA := Lib.hid (xa.below b2 (by omega))
  have XB := Lib.hid (xb.below b2 (by omega))
  have HC2 := Lib.hid (hcs.below (b2.mono (by omega)))
  have b3 : Below w.heap.size w W2 := b1.trans (b2.mono (by omega))
  have hcap := hcs.cap
  obtain ⟨a0, a1⟩ := xa
  obtain ⟨d0, d1, d2, d3, d4, d5⟩ := xb
  rw [eC] at a0
  have EC := Lib.hid eC
  clear eC
  have lk0 : (0 : Int) ≤ (k : Int) := by omega
  have lk : (k : Int) < (m.l.length : Int) := by omega
  have lb : cb < W1.heap.size := by omega
  have la : w.heap.size < W1.heap.size := by omega
  have lx : w.heap.size + 1 < W1.heap.size := by omega
  go_enter Try.func46, Try.ntmps46
  go_upto_region 1 with fail
  rw [← hW1]
  clear hW1
  go_upto_region 2 with fail
  rw [← hW2]
  clear hW2 a0 a1 d0 d1 d2 d3 d4 d5 c0 c1 c2 c3 lb la lx
  obtain ⟨a0, a1⟩ := XA.out
  obtain ⟨d0, d1, d2, d3, d4, d5⟩ := XB.out
  obtain ⟨c0, c1, c2, c3⟩ := xc
  have HQ : Hid (wthn true m.l k c 5 i = decide (i < c.s)) := by show _ = _; simp [wthn]
  go_wp2_with fail
  go_ret
  exact ⟨ret_bool HQ.out.symm, b3⟩

set_option maxRecDepth 100000 in
set_option maxHeartbeats 1000000 in
theorem specWi_6 (m : Im) (c : Cd) (k : Nat) (i : Int) (t : D) (B : Nat) (w : World) (hc : m.l[k]? = some c) (_hi0 : 0 ≤ i) (_hi1 : i ≤ 4000) (hin : Im.E.In w B m) (hB : B ≤ w.heap.size) :
    Calls Try.prog 46 #[Im.val m, .int .i64 (k : Int), .agg #[.int .i64 6, .int .i64 i, .int .i64 t.k, .int .i64 t.n, .string t.t, .slice t.A t.l.length t.c]] w fun e w' => e = .returned (.bool (wthn true m.l k c 6 i)) ∧ Below w.heap.size w w' := by
  obtain ⟨W1, hW1⟩ : ∃ W1, W1 = (w.alloc (.cells #[.slice m.lA m.l.length m.lC, .int .i64 m.m] 31)).alloc (.cells #[.int .i64 6, .int .i64 i, .int .i64 t.k, .int .i64 t.n, .string t.t, .slice t.A t.l.length t.c] 53) := ⟨_, rfl⟩
  have b1 : Below w.heap.size w W1 := by rw [hW1]; exact ((Below.refl _ _).alloc (Nat.le_refl _) _).alloc (by simp) _
  have z1 : w.heap.size + 2 ≤ W1.heap.size := by rw [hW1]; simp
  have xa : Im.Box W1 w.heap.size m := by rw [hW1]; exact (Im.Box.new w m _).below ((Below.refl (w.heap.size + 1) _).alloc (by simp) _) (by omega)
  have xb : Nt.Box W1 (w.heap.size + 1) ⟨6, i, t⟩ := by rw [hW1]; have := Nt.Box.new (w.alloc (.cells #[.slice m.lA m.l.length m.lC, .int .i64 m.m] 31)) ⟨6, i, t⟩ 53; simpa using this
  unfold Im.val
  have hcs := (Im.E_in (hin.below (b1.mono hB))).l
  have hkl : k < m.l.length := (List.getElem?_eq_some_iff.1 hc).1
  obtain ⟨cb, co, eC, hblk, c0, c1, c2, c3, _⟩ := Cd.at_ hcs (i := k) (x := c) hc
  obtain ⟨W2, hW2⟩ : ∃ W2, W2 = W1.alloc (.cells #[.int .i64 c.p, .int .i64 c.s, .int .i64 c.c, .slice c.lA c.l.length c.lC] 48) := ⟨_, rfl⟩
  have b2 : Below W1.heap.size W1 W2 := by rw [hW2]; exact (Below.refl _ _).alloc (Nat.le_refl _) _
  have z2 : W1.heap.size + 1 ≤ W2.heap.size := by rw [hW2]; simp
  have xc : Cd.Box W2 W1.heap.size c := by rw [hW2]; exact Cd.Box.new _ _ _
  have XA := Lib.hid (xa.below b2 (by omega))
  have XB := Lib.hid (xb.below b2 (by omega))
  have HC2 := Lib.hid (hcs.below (b2.mono (by omega)))
  have b3 : Below w.heap.size w W2 := b1.trans (b2.mono (by omega))
  have hcap := hcs.cap
  obtain ⟨a0, a1⟩ := xa
  obtain ⟨d0, d1, d2, d3, d4, d5⟩ := xb
  rw [eC] at a0
  have EC := Lib.hid eC
  clear eC
  have lk0 : (0 : Int) ≤ (k : Int) := by omega
  have lk : (k : Int) < (m.l.length : Int) := by omega
  have lb : cb < W1.heap.size := by omega
  have la : w.heap.size < W1.heap.size := by omega
  have lx : w.heap.size + 1 < W1.heap.size := by omega
  go_enter Try.func46, Try.ntmps46
  go_upto_region 1 with fail
  rw [← hW1]
  clear hW1
  go_upto_region 2 with fail
  rw [← hW2]
  clear hW2 a0 a1 d0 d1 d2 d3 d4 d5 c0 c1 c2 c3 lb la lx
  obtain ⟨a0, a1⟩ := XA.out
  obtain ⟨d0, d1, d2, d3, d4, d5⟩ := XB.out
  obtain ⟨c0, c1, c2, c3⟩ := xc
  have HQ : Hid (wthn true m.l k c 6 i = decide (i < c.c)) := by show _ = _; simp [wthn]
  go_wp2_with fail
  go_ret
  exact ⟨ret_bool HQ.out.symm, b3⟩

set_option maxRecDepth 100000 in
set_option maxHeartbeats 1000000 in
theorem specWi_7 (m : Im) (c : Cd) (k : Nat) (i : Int) (t : D) (B : Nat) (w : World) (hc : m.l[k]? = some c) (_hi0 : 0 ≤ i) (_hi1 : i ≤ 4000) (hin : Im.E.In w B m) (hB : B ≤ w.heap.size) :
    Calls Try.prog 46 #[Im.val m, .int .i64 (k : Int), .agg #[.int .i64 7, .int .i64 i, .int .i64 t.k, .int .i64 t.n, .string t.t, .slice t.A t.l.length t.c]] w fun e w' => e = .returned (.bool (wthn true m.l k c 7 i)) ∧ Below w.heap.size w w' := by
  obtain ⟨W1, hW1⟩ : ∃ W1, W1 = (w.alloc (.cells #[.slice m.lA m.l.length m.lC, .int .i64 m.m] 31)).alloc (.cells #[.int .i64 7, .int .i64 i, .int .i64 t.k, .int .i64 t.n, .string t.t, .slice t.A t.l.length t.c] 53) := ⟨_, rfl⟩
  have b1 : Below w.heap.size w W1 := by rw [hW1]; exact ((Below.refl _ _).alloc (Nat.le_refl _) _).alloc (by simp) _
  have z1 : w.heap.size + 2 ≤ W1.heap.size := by rw [hW1]; simp
  have xa : Im.Box W1 w.heap.size m := by rw [hW1]; exact (Im.Box.new w m _).below ((Below.refl (w.heap.size + 1) _).alloc (by simp) _) (by omega)
  have xb : Nt.Box W1 (w.heap.size + 1) ⟨7, i, t⟩ := by rw [hW1]; have := Nt.Box.new (w.alloc (.cells #[.slice m.lA m.l.length m.lC, .int .i64 m.m] 31)) ⟨7, i, t⟩ 53; simpa using this
  unfold Im.val
  have hcs := (Im.E_in (hin.below (b1.mono hB))).l
  have hkl : k < m.l.length := (List.getElem?_eq_some_iff.1 hc).1
  obtain ⟨cb, co, eC, hblk, c0, c1, c2, c3, _⟩ := Cd.at_ hcs (i := k) (x := c) hc
  obtain ⟨W2, hW2⟩ : ∃ W2, W2 = W1.alloc (.cells #[.int .i64 c.p, .int .i64 c.s, .int .i64 c.c, .slice c.lA c.l.length c.lC] 48) := ⟨_, rfl⟩
  have b2 : Below W1.heap.size W1 W2 := by rw [hW2]; exact (Below.refl _ _).alloc (Nat.le_refl _) _
  have z2 : W1.heap.size + 1 ≤ W2.heap.size := by rw [hW2]; simp
  have xc : Cd.Box W2 W1.heap.size c := by rw [hW2]; exact Cd.Box.new _ _ _
  have XA := Lib.hid (xa.below b2 (by omega))
  have XB := Lib.hid (xb.below b2 (by omega))
  have HC2 := Lib.hid (hcs.below (b2.mono (by omega)))
  have b3 : Below w.heap.size w W2 := b1.trans (b2.mono (by omega))
  have hcap := hcs.cap
  obtain ⟨a0, a1⟩ := xa
  obtain ⟨d0, d1, d2, d3, d4, d5⟩ := xb
  rw [eC] at a0
  have EC := Lib.hid eC
  clear eC
  have lk0 : (0 : Int) ≤ (k : Int) := by omega
  have lk : (k : Int) < (m.l.length : Int) := by omega
  have lb : cb < W1.heap.size := by omega
  have la : w.heap.size < W1.heap.size := by omega
  have lx : w.heap.size + 1 < W1.heap.size := by omega
  go_enter Try.func46, Try.ntmps46
  go_upto_region 1 with fail
  rw [← hW1]
  clear hW1
  go_upto_region 2 with fail
  rw [← hW2]
  clear hW2 a0 a1 d0 d1 d2 d3 d4 d5 c0 c1 c2 c3 lb la lx
  obtain ⟨a0, a1⟩ := XA.out
  obtain ⟨d0, d1, d2, d3, d4, d5⟩ := XB.out
  obtain ⟨c0, c1, c2, c3⟩ := xc
  have HQ : Hid (wthn true m.l k c 7 i = decide (i < c.s)) := by show _ = _; simp [wthn]
  go_wp2_with fail
  go_ret
  exact ⟨ret_bool HQ.out.symm, b3⟩

set_option maxRecDepth 100000 in
set_option maxHeartbeats 1000000 in
theorem specWi_8 (m : Im) (c : Cd) (k : Nat) (i : Int) (t : D) (B : Nat) (w : World) (hc : m.l[k]? = some c) (_hi0 : 0 ≤ i) (_hi1 : i ≤ 4000) (hin : Im.E.In w B m) (hB : B ≤ w.heap.size) :
    Calls Try.prog 46 #[Im.val m, .int .i64 (k : Int), .agg #[.int .i64 8, .int .i64 i, .int .i64 t.k, .int .i64 t.n, .string t.t, .slice t.A t.l.length t.c]] w fun e w' => e = .returned (.bool (wthn true m.l k c 8 i)) ∧ Below w.heap.size w w' := by
  obtain ⟨W1, hW1⟩ : ∃ W1, W1 = (w.alloc (.cells #[.slice m.lA m.l.length m.lC, .int .i64 m.m] 31)).alloc (.cells #[.int .i64 8, .int .i64 i, .int .i64 t.k, .int .i64 t.n, .string t.t, .slice t.A t.l.length t.c] 53) := ⟨_, rfl⟩
  have b1 : Below w.heap.size w W1 := by rw [hW1]; exact ((Below.refl _ _).alloc (Nat.le_refl _) _).alloc (by simp) _
  have z1 : w.heap.size + 2 ≤ W1.heap.size := by rw [hW1]; simp
  have xa : Im.Box W1 w.heap.size m := by rw [hW1]; exact (Im.Box.new w m _).below ((Below.refl (w.heap.size + 1) _).alloc (by simp) _) (by omega)
  have xb : Nt.Box W1 (w.heap.size + 1) ⟨8, i, t⟩ := by rw [hW1]; have := Nt.Box.new (w.alloc (.cells #[.slice m.lA m.l.length m.lC, .int .i64 m.m] 31)) ⟨8, i, t⟩ 53; simpa using this
  unfold Im.val
  have hcs := (Im.E_in (hin.below (b1.mono hB))).l
  have hkl : k < m.l.length := (List.getElem?_eq_some_iff.1 hc).1
  obtain ⟨cb, co, eC, hblk, c0, c1, c2, c3, _⟩ := Cd.at_ hcs (i := k) (x := c) hc
  obtain ⟨W2, hW2⟩ : ∃ W2, W2 = W1.alloc (.cells #[.int .i64 c.p, .int .i64 c.s, .int .i64 c.c, .slice c.lA c.l.length c.lC] 48) := ⟨_, rfl⟩
  have b2 : Below W1.heap.size W1 W2 := by rw [hW2]; exact (Below.refl _ _).alloc (Nat.le_refl _) _
  have z2 : W1.heap.size + 1 ≤ W2.heap.size := by rw [hW2]; simp
  have xc : Cd.Box W2 W1.heap.size c := by rw [hW2]; exact Cd.Box.new _ _ _
  have XA := Lib.hid (xa.below b2 (by omega))
  have XB := Lib.hid (xb.below b2 (by omega))
  have HC2 := Lib.hid (hcs.below (b2.mono (by omega)))
  have b3 : Below w.heap.size w W2 := b1.trans (b2.mono (by omega))
  have hcap := hcs.cap
  obtain ⟨a0, a1⟩ := xa
  obtain ⟨d0, d1, d2, d3, d4, d5⟩ := xb
  rw [eC] at a0
  have EC := Lib.hid eC
  clear eC
  have lk0 : (0 : Int) ≤ (k : Int) := by omega
  have lk : (k : Int) < (m.l.length : Int) := by omega
  have lb : cb < W1.heap.size := by omega
  have la : w.heap.size < W1.heap.size := by omega
  have lx : w.heap.size + 1 < W1.heap.size := by omega
  go_enter Try.func46, Try.ntmps46
  go_upto_region 1 with fail
  rw [← hW1]
  clear hW1
  go_upto_region 2 with fail
  rw [← hW2]
  clear hW2 a0 a1 d0 d1 d2 d3 d4 d5 c0 c1 c2 c3 lb la lx
  obtain ⟨a0, a1⟩ := XA.out
  obtain ⟨d0, d1, d2, d3, d4, d5⟩ := XB.out
  obtain ⟨c0, c1, c2, c3⟩ := xc
  have HQ : Hid (wthn true m.l k c 8 i = decide (i < c.c)) := by show _ = _; simp [wthn]
  go_wp2_with fail
  go_ret
  exact ⟨ret_bool HQ.out.symm, b3⟩

set_option maxRecDepth 100000 in
set_option maxHeartbeats 1000000 in
theorem specWi_9 (m : Im) (c : Cd) (k : Nat) (i : Int) (t : D) (B : Nat) (w : World) (hc : m.l[k]? = some c) (_hi0 : 0 ≤ i) (_hi1 : i ≤ 4000) (h9 : 0 ≤ c.s ∧ c.s ≤ 500) (hin : Im.E.In w B m) (hB : B ≤ w.heap.size) :
    Calls Try.prog 46 #[Im.val m, .int .i64 (k : Int), .agg #[.int .i64 9, .int .i64 i, .int .i64 t.k, .int .i64 t.n, .string t.t, .slice t.A t.l.length t.c]] w fun e w' => e = .returned (.bool (wthn true m.l k c 9 i)) ∧ Below w.heap.size w w' := by
  obtain ⟨W1, hW1⟩ : ∃ W1, W1 = (w.alloc (.cells #[.slice m.lA m.l.length m.lC, .int .i64 m.m] 31)).alloc (.cells #[.int .i64 9, .int .i64 i, .int .i64 t.k, .int .i64 t.n, .string t.t, .slice t.A t.l.length t.c] 53) := ⟨_, rfl⟩
  have b1 : Below w.heap.size w W1 := by rw [hW1]; exact ((Below.refl _ _).alloc (Nat.le_refl _) _).alloc (by simp) _
  have z1 : w.heap.size + 2 ≤ W1.heap.size := by rw [hW1]; simp
  have xa : Im.Box W1 w.heap.size m := by rw [hW1]; exact (Im.Box.new w m _).below ((Below.refl (w.heap.size + 1) _).alloc (by simp) _) (by omega)
  have xb : Nt.Box W1 (w.heap.size + 1) ⟨9, i, t⟩ := by rw [hW1]; have := Nt.Box.new (w.alloc (.cells #[.slice m.lA m.l.length m.lC, .int .i64 m.m] 31)) ⟨9, i, t⟩ 53; simpa using this
  unfold Im.val
  have hcs := (Im.E_in (hin.below (b1.mono hB))).l
  have hkl : k < m.l.length := (List.getElem?_eq_some_iff.1 hc).1
  obtain ⟨cb, co, eC, hblk, c0, c1, c2, c3, _⟩ := Cd.at_ hcs (i := k) (x := c) hc
  obtain ⟨W2, hW2⟩ : ∃ W2, W2 = W1.alloc (.cells #[.int .i64 c.p, .int .i64 c.s, .int .i64 c.c, .slice c.lA c.l.length c.lC] 48) := ⟨_, rfl⟩
  have b2 : Below W1.heap.size W1 W2 := by rw [hW2]; exact (Below.refl _ _).alloc (Nat.le_refl _) _
  have z2 : W1.heap.size + 1 ≤ W2.heap.size := by rw [hW2]; simp
  have xc : Cd.Box W2 W1.heap.size c := by rw [hW2]; exact Cd.Box.new _ _ _
  have XA := Lib.hid (xa.below b2 (by omega))
  have XB := Lib.hid (xb.below b2 (by omega))
  have HC2 := Lib.hid (hcs.below (b2.mono (by omega)))
  have b3 : Below w.heap.size w W2 := b1.trans (b2.mono (by omega))
  have hcap := hcs.cap
  obtain ⟨a0, a1⟩ := xa
  obtain ⟨d0, d1, d2, d3, d4, d5⟩ := xb
  rw [eC] at a0
  have EC := Lib.hid eC
  clear eC
  have lk0 : (0 : Int) ≤ (k : Int) := by omega
  have lk : (k : Int) < (m.l.length : Int) := by omega
  have lb : cb < W1.heap.size := by omega
  have la : w.heap.size < W1.heap.size := by omega
  have lx : w.heap.size + 1 < W1.heap.size := by omega
  go_enter Try.func46, Try.ntmps46
  go_upto_region 1 with fail
  rw [← hW1]
  clear hW1
  go_upto_region 2 with fail
  rw [← hW2]
  clear hW2 a0 a1 d0 d1 d2 d3 d4 d5 c0 c1 c2 c3 lb la lx
  obtain ⟨a0, a1⟩ := XA.out
  obtain ⟨d0, d1, d2, d3, d4, d5⟩ := XB.out
  obtain ⟨c0, c1, c2, c3⟩ := xc
  have hsub := IntWalk.i64_in (c.s - 1) (by omega)
  have HQ : Hid (wthn true m.l k c 9 i = (decide (c.p ≤ i) && decide (i ≤ c.s - 1))) := by show _ = _; simp only [wthn]; by_cases h1 : c.p ≤ i <;> by_cases h2 : i < c.s <;> simp [h1, h2] <;> omega
  clear hsub
  go_wp2_with fail
  (with_reducible refine (l1In_any _ _ _ _).mono ?_)
  rintro e w5 ⟨rfl, hw5⟩
  obtain rfl := hw5
  go_wp2_with fail
  go_ret
  exact ⟨ret_bool HQ.out.symm, b3⟩

set_option maxRecDepth 100000 in
set_option maxHeartbeats 1000000 in
theorem specWi_10 (m : Im) (c : Cd) (k : Nat) (i : Int) (t : D) (B : Nat) (w : World) (hc : m.l[k]? = some c) (_hi0 : 0 ≤ i) (_hi1 : i ≤ 4000) (hin : Im.E.In w B m) (hB : B ≤ w.heap.size) :
    Calls Try.prog 46 #[Im.val m, .int .i64 (k : Int), .agg #[.int .i64 10, .int .i64 i, .int .i64 t.k, .int .i64 t.n, .string t.t, .slice t.A t.l.length t.c]] w fun e w' => e = .returned (.bool (wthn true m.l k c 10 i)) ∧ Below w.heap.size w w' := by
  obtain ⟨W1, hW1⟩ : ∃ W1, W1 = (w.alloc (.cells #[.slice m.lA m.l.length m.lC, .int .i64 m.m] 31)).alloc (.cells #[.int .i64 10, .int .i64 i, .int .i64 t.k, .int .i64 t.n, .string t.t, .slice t.A t.l.length t.c] 53) := ⟨_, rfl⟩
  have b1 : Below w.heap.size w W1 := by rw [hW1]; exact ((Below.refl _ _).alloc (Nat.le_refl _) _).alloc (by simp) _
  have z1 : w.heap.size + 2 ≤ W1.heap.size := by rw [hW1]; simp
  have xa : Im.Box W1 w.heap.size m := by rw [hW1]; exact (Im.Box.new w m _).below ((Below.refl (w.heap.size + 1) _).alloc (by simp) _) (by omega)
  have xb : Nt.Box W1 (w.heap.size + 1) ⟨10, i, t⟩ := by rw [hW1]; have := Nt.Box.new (w.alloc (.cells #[.slice m.lA m.l.length m.lC, .int .i64 m.m] 31)) ⟨10, i, t⟩ 53; simpa using this
  unfold Im.val
  have hcs := (Im.E_in (hin.below (b1.mono hB))).l
  have hkl : k < m.l.length := (List.getElem?_eq_some_iff.1 hc).1
  obtain ⟨cb, co, eC, hblk, c0, c1, c2, c3, _⟩ := Cd.at_ hcs (i := k) (x := c) hc
  obtain ⟨W2, hW2⟩ : ∃ W2, W2 = W1.alloc (.cells #[.int .i64 c.p, .int .i64 c.s, .int .i64 c.c, .slice c.lA c.l.length c.lC] 48) := ⟨_, rfl⟩
  have b2 : Below W1.heap.size W1 W2 := by rw [hW2]; exact (Below.refl _ _).alloc (Nat.le_refl _) _
  have z2 : W1.heap.size + 1 ≤ W2.heap.size := by rw [hW2]; simp
  have xc : Cd.Box W2 W1.heap.size c := by rw [hW2]; exact Cd.Box.new _ _ _
  have XA := Lib.hid (xa.below b2 (by omega))
  have XB := Lib.hid (xb.below b2 (by omega))
  have HC2 := Lib.hid (hcs.below (b2.mono (by omega)))
  have b3 : Below w.heap.size w W2 := b1.trans (b2.mono (by omega))
  have hcap := hcs.cap
  obtain ⟨a0, a1⟩ := xa
  obtain ⟨d0, d1, d2, d3, d4, d5⟩ := xb
  rw [eC] at a0
  have EC := Lib.hid eC
  clear eC
  have lk0 : (0 : Int) ≤ (k : Int) := by omega
  have lk : (k : Int) < (m.l.length : Int) := by omega
  have lb : cb < W1.heap.size := by omega
  have la : w.heap.size < W1.heap.size := by omega
  have lx : w.heap.size + 1 < W1.heap.size := by omega
  go_enter Try.func46, Try.ntmps46
  go_upto_region 1 with fail
  rw [← hW1]
  clear hW1
  go_upto_region 2 with fail
  rw [← hW2]
  clear hW2 a0 a1 d0 d1 d2 d3 d4 d5 c0 c1 c2 c3 lb la lx
  obtain ⟨a0, a1⟩ := XA.out
  obtain ⟨d0, d1, d2, d3, d4, d5⟩ := XB.out
  obtain ⟨c0, c1, c2, c3⟩ := xc
  have HQ : Hid (wthn true m.l k c 10 i = decide (i < c.p)) := by show _ = _; simp [wthn]
  go_wp2_with fail
  go_ret
  exact ⟨ret_bool HQ.out.symm, b3⟩

set_option maxRecDepth 100000 in
set_option maxHeartbeats 1000000 in
theorem specWi_11 (m : Im) (c : Cd) (k : Nat) (i : Int) (t : D) (B : Nat) (w : World) (hc : m.l[k]? = some c) (hi0 : 0 ≤ i) (hi1 : i ≤ 4000) (hin : Im.E.In w B m) (hB : B ≤ w.heap.size) :
    Calls Try.prog 46 #[Im.val m, .int .i64 (k : Int), .agg #[.int .i64 11, .int .i64 i, .int .i64 t.k, .int .i64 t.n, .string t.t, .slice t.A t.l.length t.c]] w fun e w' => e = .returned (.bool (wthn true m.l k c 11 i)) ∧ Below w.heap.size w w' := by
  obtain ⟨W1, hW1⟩ : ∃ W1, W1 = (w.alloc (.cells #[.slice m.lA m.l.length m.lC, .int .i64 m.m] 31)).alloc (.cells #[.int .i64 11, .int .i64 i, .int .i64 t.k, .int .i64 t.n, .string t.t, .slice t.A t.l.length t.c] 53) := ⟨_, rfl⟩
  have b1 : Below w.heap.size w W1 := by rw [hW1]; exact ((Below.refl _ _).alloc (Nat.le_refl _) _).alloc (by simp) _
  have z1 : w.heap.size + 2 ≤ W1.heap.size := by rw [hW1]; simp
  have xa : Im.Box W1 w.heap.size m := by rw [hW1]; exact (Im.Box.new w m _).below ((Below.refl (w.heap.size + 1) _).alloc (by simp) _) (by omega)
  have xb : Nt.Box W1 (w.heap.size + 1) ⟨11, i, t⟩ := by rw [hW1]; have := Nt.Box.new (w.alloc (.cells #[.slice m.lA m.l.length m.lC, .int .i64 m.m] 31)) ⟨11, i, t⟩ 53; simpa using this
  unfold Im.val
  have hcs := (Im.E_in (hin.below (b1.mono hB))).l
  have hkl : k < m.l.length := (List.getElem?_eq_some_iff.1 hc).1
  obtain ⟨cb, co, eC, hblk, c0, c1, c2, c3, _⟩ := Cd.at_ hcs (i := k) (x := c) hc
  obtain ⟨W2, hW2⟩ : ∃ W2, W2 = W1.alloc (.cells #[.int .i64 c.p, .int .i64 c.s, .int .i64 c.c, .slice c.lA c.l.length c.lC] 48) := ⟨_, rfl⟩
  have b2 : Below W1.heap.size W1 W2 := by rw [hW2]; exact (Below.refl _ _).alloc (Nat.le_refl _) _
  have z2 : W1.heap.size + 1 ≤ W2.heap.size := by rw [hW2]; simp
  have xc : Cd.Box W2 W1.heap.size c := by rw [hW2]; exact Cd.Box.new _ _ _
  have XA := Lib.hid (xa.below b2 (by omega))
  have XB := Lib.hid (xb.below b2 (by omega))
  have HC2 := Lib.hid (hcs.below (b2.mono (by omega)))
  have b3 : Below w.heap.size w W2 := b1.trans (b2.mono (by omega))
  have hcap := hcs.cap
  obtain ⟨a0, a1⟩ := xa
  obtain ⟨d0, d1, d2, d3, d4, d5⟩ := xb
  rw [eC] at a0
  have EC := Lib.hid eC
  clear eC
  have lk0 : (0 : Int) ≤ (k : Int) := by omega
  have lk : (k : Int) < (m.l.length : Int) := by omega
  have lb : cb < W1.heap.size := by omega
  have la : w.heap.size < W1.heap.size := by omega
  have lx : w.heap.size + 1 < W1.heap.size := by omega
  go_enter Try.func46, Try.ntmps46
  go_upto_region 1 with fail
  rw [← hW1]
  clear hW1
  go_upto_region 2 with fail
  rw [← hW2]
  clear hW2 a0 a1 d0 d1 d2 d3 d4 d5 c0 c1 c2 c3 lb la lx
  obtain ⟨a0, a1⟩ := XA.out
  obtain ⟨d0, d1, d2, d3, d4, d5⟩ := XB.out
  obtain ⟨c0, c1, c2, c3⟩ := xc
  by_cases h : i < (k : Int)
  · have hd := decide_eq_true h
    obtain ⟨j, rfl⟩ : ∃ j : Nat, i = j := ⟨i.toNat, by omega⟩
    have hjl : j < m.l.length := by omega
    obtain ⟨eb, eo, eE, ebl, e0, _, _, _, _⟩ := Cd.at_ HC2.out (i := j) (x := m.l[j]) (List.getElem?_eq_getElem hjl)
    rw [← Cd.at'_get hjl] at e0
    have HQ : Hid (wthn true m.l k c 11 (j : Int) = (decide ((Cd.at' m.l (j : Int)).p ≤ 8))) := by show _ = _; simp [wthn, h]
    obtain ⟨V, hV⟩ : ∃ V, V = (Cd.at' m.l (j : Int)).p := ⟨_, rfl⟩
    rw [← hV] at e0 HQ
    rw [EC.out] at eE
    obtain ⟨rfl, rfl⟩ : cb = eb ∧ co = eo := by simpa using eE
    clear hV eE
    rw [EC.out] at a0
    have lj : (j : Int) < (m.l.length : Int) := by omega
    have lb : cb < W2.heap.size := by omega
    go_wp2_with fail
    go_ret
    exact ⟨ret_bool HQ.out.symm, b3⟩
  · have hd := decide_eq_false h
    have HQ : Hid (wthn true m.l k c 11 i = false) := by show _ = _; simp [wthn, h]
    go_wp2_with fail
    go_ret
    exact ⟨ret_bool HQ.out.symm, b3⟩

set_option maxRecDepth 100000 in
set_option maxHeartbeats 1000000 in
theorem specWi_12 (m : Im) (c : Cd) (k : Nat) (i : Int) (t : D) (B : Nat) (w : World) (hc : m.l[k]? = some c) (_hi0 : 0 ≤ i) (_hi1 : i ≤ 4000) (hin : Im.E.In w B m) (hB : B ≤ w.heap.size) :
    Calls Try.prog 46 #[Im.val m, .int .i64 (k : Int), .agg #[.int .i64 12, .int .i64 i, .int .i64 t.k, .int .i64 t.n, .string t.t, .slice t.A t.l.length t.c]] w fun e w' => e = .returned (.bool (wthn true m.l k c 12 i)) ∧ Below w.heap.size w w' := by
  obtain ⟨W1, hW1⟩ : ∃ W1, W1 = (w.alloc (.cells #[.slice m.lA m.l.length m.lC, .int .i64 m.m] 31)).alloc (.cells #[.int .i64 12, .int .i64 i, .int .i64 t.k, .int .i64 t.n, .string t.t, .slice t.A t.l.length t.c] 53) := ⟨_, rfl⟩
  have b1 : Below w.heap.size w W1 := by rw [hW1]; exact ((Below.refl _ _).alloc (Nat.le_refl _) _).alloc (by simp) _
  have z1 : w.heap.size + 2 ≤ W1.heap.size := by rw [hW1]; simp
  have xa : Im.Box W1 w.heap.size m := by rw [hW1]; exact (Im.Box.new w m _).below ((Below.refl (w.heap.size + 1) _).alloc (by simp) _) (by omega)
  have xb : Nt.Box W1 (w.heap.size + 1) ⟨12, i, t⟩ := by rw [hW1]; have := Nt.Box.new (w.alloc (.cells #[.slice m.lA m.l.length m.lC, .int .i64 m.m] 31)) ⟨12, i, t⟩ 53; simpa using this
  unfold Im.val
  have hcs := (Im.E_in (hin.below (b1.mono hB))).l
  have hkl : k < m.l.length := (List.getElem?_eq_some_iff.1 hc).1
  obtain ⟨cb, co, eC, hblk, c0, c1, c2, c3, _⟩ := Cd.at_ hcs (i := k) (x := c) hc
  obtain ⟨W2, hW2⟩ : ∃ W2, W2 = W1.alloc (.cells #[.int .i64 c.p, .int .i64 c.s, .int .i64 c.c, .slice c.lA c.l.length c.lC] 48) := ⟨_, rfl⟩
  have b2 : Below W1.heap.size W1 W2 := by rw [hW2]; exact (Below.refl _ _).alloc (Nat.le_refl _) _
  have z2 : W1.heap.size + 1 ≤ W2.heap.size := by rw [hW2]; simp
  have xc : Cd.Box W2 W1.heap.size c := by rw [hW2]; exact Cd.Box.new _ _ _
  have XA := Lib.hid (xa.below b2 (by omega))
  have XB := Lib.hid (xb.below b2 (by omega))
  have HC2 := Lib.hid (hcs.below (b2.mono (by omega)))
  have b3 : Below w.heap.size w W2 := b1.trans (b2.mono (by omega))
  have hcap := hcs.cap
  obtain ⟨a0, a1⟩ := xa
  obtain ⟨d0, d1, d2, d3, d4, d5⟩ := xb
  rw [eC] at a0
  have EC := Lib.hid eC
  clear eC
  have lk0 : (0 : Int) ≤ (k : Int) := by omega
  have lk : (k : Int) < (m.l.length : Int) := by omega
  have lb : cb < W1.heap.size := by omega
  have la : w.heap.size < W1.heap.size := by omega
  have lx : w.heap.size + 1 < W1.heap.size := by omega
  go_enter Try.func46, Try.ntmps46
  go_upto_region 1 with fail
  rw [← hW1]
  clear hW1
  go_upto_region 2 with fail
  rw [← hW2]
  clear hW2 a0 a1 d0 d1 d2 d3 d4 d5 c0 c1 c2 c3 lb la lx
  obtain ⟨a0, a1⟩ := XA.out
  obtain ⟨d0, d1, d2, d3, d4, d5⟩ := XB.out
  obtain ⟨c0, c1, c2, c3⟩ := xc
  have HQ : Hid (wthn true m.l k c 12 i = decide (i ≤ 8)) := by show _ = _; simp [wthn]
  go_wp2_with fail
  go_ret
  exact ⟨ret_bool HQ.out.symm, b3⟩

set_option maxRecDepth 100000 in
set_option maxHeartbeats 1000000 in
theorem specWi_13 (m : Im) (c : Cd) (k : Nat) (i : Int) (t : D) (B : Nat) (w : World) (hc : m.l[k]? = some c) (_hi0 : 0 ≤ i) (_hi1 : i ≤ 4000) (hin : Im.E.In w B m) (hB : B ≤ w.heap.size) :
    Calls Try.prog 46 #[Im.val m, .int .i64 (k : Int), .agg #[.int .i64 13, .int .i64 i, .int .i64 t.k, .int .i64 t.n, .string t.t, .slice t.A t.l.length t.c]] w fun e w' => e = .returned (.bool (wthn true m.l k c 13 i)) ∧ Below w.heap.size w w' := by
  obtain ⟨W1, hW1⟩ : ∃ W1, W1 = (w.alloc (.cells #[.slice m.lA m.l.length m.lC, .int .i64 m.m] 31)).alloc (.cells #[.int .i64 13, .int .i64 i, .int .i64 t.k, .int .i64 t.n, .string t.t, .slice t.A t.l.length t.c] 53) := ⟨_, rfl⟩
  have b1 : Below w.heap.size w W1 := by rw [hW1]; exact ((Below.refl _ _).alloc (Nat.le_refl _) _).alloc (by simp) _
  have z1 : w.heap.size + 2 ≤ W1.heap.size := by rw [hW1]; simp
  have xa : Im.Box W1 w.heap.size m := by rw [hW1]; exact (Im.Box.new w m _).below ((Below.refl (w.heap.size + 1) _).alloc (by simp) _) (by omega)
  have xb : Nt.Box W1 (w.heap.size + 1) ⟨13, i, t⟩ := by rw [hW1]; have := Nt.Box.new (w.alloc (.cells #[.slice m.lA m.l.length m.lC, .int .i64 m.m] 31)) ⟨13, i, t⟩ 53; simpa using this
  unfold Im.val
  have hcs := (Im.E_in (hin.below (b1.mono hB))).l
  have hkl : k < m.l.length := (List.getElem?_eq_some_iff.1 hc).1
  obtain ⟨cb, co, eC, hblk, c0, c1, c2, c3, _⟩ := Cd.at_ hcs (i := k) (x := c) hc
  obtain ⟨W2, hW2⟩ : ∃ W2, W2 = W1.alloc (.cells #[.int .i64 c.p, .int .i64 c.s, .int .i64 c.c, .slice c.lA c.l.length c.lC] 48) := ⟨_, rfl⟩
  have b2 : Below W1.heap.size W1 W2 := by rw [hW2]; exact (Below.refl _ _).alloc (Nat.le_refl _) _
  have z2 : W1.heap.size + 1 ≤ W2.heap.size := by rw [hW2]; simp
  have xc : Cd.Box W2 W1.heap.size c := by rw [hW2]; exact Cd.Box.new _ _ _
  have XA := Lib.hid (xa.below b2 (by omega))
  have XB := Lib.hid (xb.below b2 (by omega))
  have HC2 := Lib.hid (hcs.below (b2.mono (by omega)))
  have b3 : Below w.heap.size w W2 := b1.trans (b2.mono (by omega))
  have hcap := hcs.cap
  obtain ⟨a0, a1⟩ := xa
  obtain ⟨d0, d1, d2, d3, d4, d5⟩ := xb
  rw [eC] at a0
  have EC := Lib.hid eC
  clear eC
  have lk0 : (0 : Int) ≤ (k : Int) := by omega
  have lk : (k : Int) < (m.l.length : Int) := by omega
  have lb : cb < W1.heap.size := by omega
  have la : w.heap.size < W1.heap.size := by omega
  have lx : w.heap.size + 1 < W1.heap.size := by omega
  go_enter Try.func46, Try.ntmps46
  go_upto_region 1 with fail
  rw [← hW1]
  clear hW1
  go_upto_region 2 with fail
  rw [← hW2]
  clear hW2 a0 a1 d0 d1 d2 d3 d4 d5 c0 c1 c2 c3 lb la lx
  obtain ⟨a0, a1⟩ := XA.out
  obtain ⟨d0, d1, d2, d3, d4, d5⟩ := XB.out
  obtain ⟨c0, c1, c2, c3⟩ := xc
  have HQ : Hid (wthn true m.l k c 13 i = decide (i ≤ 8)) := by show _ = _; simp [wthn]
  go_wp2_with fail
  go_ret
  exact ⟨ret_bool HQ.out.symm, b3⟩

set_option maxRecDepth 100000 in
set_option maxHeartbeats 1000000 in
theorem specWi_14 (m : Im) (c : Cd) (k : Nat) (i : Int) (t : D) (B : Nat) (w : World) (hc : m.l[k]? = some c) (_hi0 : 0 ≤ i) (_hi1 : i ≤ 4000) (hin : Im.E.In w B m) (hB : B ≤ w.heap.size) :
    Calls Try.prog 46 #[Im.val m, .int .i64 (k : Int), .agg #[.int .i64 14, .int .i64 i, .int .i64 t.k, .int .i64 t.n, .string t.t, .slice t.A t.l.length t.c]] w fun e w' => e = .returned (.bool (wthn true m.l k c 14 i)) ∧ Below w.heap.size w w' := by
  obtain ⟨W1, hW1⟩ : ∃ W1, W1 = (w.alloc (.cells #[.slice m.lA m.l.length m.lC, .int .i64 m.m] 31)).alloc (.cells #[.int .i64 14, .int .i64 i, .int .i64 t.k, .int .i64 t.n, .string t.t, .slice t.A t.l.length t.c] 53) := ⟨_, rfl⟩
  have b1 : Below w.heap.size w W1 := by rw [hW1]; exact ((Below.refl _ _).alloc (Nat.le_refl _) _).alloc (by simp) _
  have z1 : w.heap.size + 2 ≤ W1.heap.size := by rw [hW1]; simp
  have xa : Im.Box W1 w.heap.size m := by rw [hW1]; exact (Im.Box.new w m _).below ((Below.refl (w.heap.size + 1) _).alloc (by simp) _) (by omega)
  have xb : Nt.Box W1 (w.heap.size + 1) ⟨14, i, t⟩ := by rw [hW1]; have := Nt.Box.new (w.alloc (.cells #[.slice m.lA m.l.length m.lC, .int .i64 m.m] 31)) ⟨14, i, t⟩ 53; simpa using this
  unfold Im.val
  have hcs := (Im.E_in (hin.below (b1.mono hB))).l
  have hkl : k < m.l.length := (List.getElem?_eq_some_iff.1 hc).1
  obtain ⟨cb, co, eC, hblk, c0, c1, c2, c3, _⟩ := Cd.at_ hcs (i := k) (x := c) hc
  obtain ⟨W2, hW2⟩ : ∃ W2, W2 = W1.alloc (.cells #[.int .i64 c.p, .int .i64 c.s, .int .i64 c.c, .slice c.lA c.l.length c.lC] 48) := ⟨_, rfl⟩
  have b2 : Below W1.heap.size W1 W2 := by rw [hW2]; exact (Below.refl _ _).alloc (Nat.le_refl _) _
  have z2 : W1.heap.size + 1 ≤ W2.heap.size := by rw [hW2]; simp
  have xc : Cd.Box W2 W1.heap.size c := by rw [hW2]; exact Cd.Box.new _ _ _
  have XA := Lib.hid (xa.below b2 (by omega))
  have XB := Lib.hid (xb.below b2 (by omega))
  have HC2 := Lib.hid (hcs.below (b2.mono (by omega)))
  have b3 : Below w.heap.size w W2 := b1.trans (b2.mono (by omega))
  have hcap := hcs.cap
  obtain ⟨a0, a1⟩ := xa
  obtain ⟨d0, d1, d2, d3, d4, d5⟩ := xb
  rw [eC] at a0
  have EC := Lib.hid eC
  clear eC
  have lk0 : (0 : Int) ≤ (k : Int) := by omega
  have lk : (k : Int) < (m.l.length : Int) := by omega
  have lb : cb < W1.heap.size := by omega
  have la : w.heap.size < W1.heap.size := by omega
  have lx : w.heap.size + 1 < W1.heap.size := by omega
  go_enter Try.func46, Try.ntmps46
  go_upto_region 1 with fail
  rw [← hW1]
  clear hW1
  go_upto_region 2 with fail
  rw [← hW2]
  clear hW2 a0 a1 d0 d1 d2 d3 d4 d5 c0 c1 c2 c3 lb la lx
  obtain ⟨a0, a1⟩ := XA.out
  obtain ⟨d0, d1, d2, d3, d4, d5⟩ := XB.out
  obtain ⟨c0, c1, c2, c3⟩ := xc
  have HQ : Hid (wthn true m.l k c 14 i = true) := by show _ = _; simp [wthn]
  go_wp2_with fail
  go_ret
  exact ⟨ret_bool HQ.out.symm, b3⟩

set_option maxRecDepth 100000 in
set_option maxHeartbeats 1000000 in
theorem specWi_15 (m : Im) (c : Cd) (k : Nat) (i : Int) (t : D) (B : Nat) (w : World) (hc : m.l[k]? = some c) (_hi0 : 0 ≤ i) (_hi1 : i ≤ 4000) (hin : Im.E.In w B m) (hB : B ≤ w.heap.size) :
    Calls Try.prog 46 #[Im.val m, .int .i64 (k : Int), .agg #[.int .i64 15, .int .i64 i, .int .i64 t.k, .int .i64 t.n, .string t.t, .slice t.A t.l.length t.c]] w fun e w' => e = .returned (.bool (wthn true m.l k c 15 i)) ∧ Below w.heap.size w w' := by
  obtain ⟨W1, hW1⟩ : ∃ W1, W1 = (w.alloc (.cells #[.slice m.lA m.l.length m.lC, .int .i64 m.m] 31)).alloc (.cells #[.int .i64 15, .int .i64 i, .int .i64 t.k, .int .i64 t.n, .string t.t, .slice t.A t.l.length t.c] 53) := ⟨_, rfl⟩
  have b1 : Below w.heap.size w W1 := by rw [hW1]; exact ((Below.refl _ _).alloc (Nat.le_refl _) _).alloc (by simp) _
  have z1 : w.heap.size + 2 ≤ W1.heap.size := by rw [hW1]; simp
  have xa : Im.Box W1 w.heap.size m := by rw [hW1]; exact (Im.Box.new w m _).below ((Below.refl (w.heap.size + 1) _).alloc (by simp) _) (by omega)
  have xb : Nt.Box W1 (w.heap.size + 1) ⟨15, i, t⟩ := by rw [hW1]; have := Nt.Box.new (w.alloc (.cells #[.slice m.lA m.l.length m.lC, .int .i64 m.m] 31)) ⟨15, i, t⟩ 53; simpa using this
  unfold Im.val
  have hcs := (Im.E_in (hin.below (b1.mono hB))).l
  have hkl : k < m.l.length := (List.getElem?_eq_some_iff.1 hc).1
  obtain ⟨cb, co, eC, hblk, c0, c1, c2, c3, _⟩ := Cd.at_ hcs (i := k) (x := c) hc
  obtain ⟨W2, hW2⟩ : ∃ W2, W2 = W1.alloc (.cells #[.int .i64 c.p, .int .i64 c.s, .int .i64 c.c, .slice c.lA c.l.length c.lC] 48) := ⟨_, rfl⟩
  have b2 : Below W1.heap.size W1 W2 := by rw [hW2]; exact (Below.refl _ _).alloc (Nat.le_refl _) _
  have z2 : W1.heap.size + 1 ≤ W2.heap.size := by rw [hW2]; simp
  have xc : Cd.Box W2 W1.heap.size c := by rw [hW2]; exact Cd.Box.new _ _ _
  have XA := Lib.hid (xa.below b2 (by omega))
  have XB := Lib.hid (xb.below b2 (by omega))
  have HC2 := Lib.hid (hcs.below (b2.mono (by omega)))
  have b3 : Below w.heap.size w W2 := b1.trans (b2.mono (by omega))
  have hcap := hcs.cap
  obtain ⟨a0, a1⟩ := xa
  obtain ⟨d0, d1, d2, d3, d4, d5⟩ := xb
  rw [eC] at a0
  have EC := Lib.hid eC
  clear eC
  have lk0 : (0 : Int) ≤ (k : Int) := by omega
  have lk : (k : Int) < (m.l.length : Int) := by omega
  have lb : cb < W1.heap.size := by omega
  have la : w.heap.size < W1.heap.size := by omega
  have lx : w.heap.size + 1 < W1.heap.size := by omega
  go_enter Try.func46, Try.ntmps46
  go_upto_region 1 with fail
  rw [← hW1]
  clear hW1
  go_upto_region 2 with fail
  rw [← hW2]
  clear hW2 a0 a1 d0 d1 d2 d3 d4 d5 c0 c1 c2 c3 lb la lx
  obtain ⟨a0, a1⟩ := XA.out
  obtain ⟨d0, d1, d2, d3, d4, d5⟩ := XB.out
  obtain ⟨c0, c1, c2, c3⟩ := xc
  have HQ : Hid (wthn true m.l k c 15 i = true) := by show _ = _; simp [wthn]
  go_wp2_with fail
  go_ret
  exact ⟨ret_bool HQ.out.symm, b3⟩

set_option maxRecDepth 100000 in
set_option maxHeartbeats 1000000 in
theorem specWi_16 (m : Im) (c : Cd) (k : Nat) (i : Int) (t : D) (B : Nat) (w : World) (hc : m.l[k]? = some c) (_hi0 : 0 ≤ i) (_hi1 : i ≤ 4000) (hin : Im.E.In w B m) (hB : B ≤ w.heap.size) :
    Calls Try.prog 46 #[Im.val m, .int .i64 (k : Int), .agg #[.int .i64 16, .int .i64 i, .int .i64 t.k, .int .i64 t.n, .string t.t, .slice t.A t.l.length t.c]] w fun e w' => e = .returned (.bool (wthn true m.l k c 16 i)) ∧ Below w.heap.size w w' := by
  obtain ⟨W1, hW1⟩ : ∃ W1, W1 = (w.alloc (.cells #[.slice m.lA m.l.length m.lC, .int .i64 m.m] 31)).alloc (.cells #[.int .i64 16, .int .i64 i, .int .i64 t.k, .int .i64 t.n, .string t.t, .slice t.A t.l.length t.c] 53) := ⟨_, rfl⟩
  have b1 : Below w.heap.size w W1 := by rw [hW1]; exact ((Below.refl _ _).alloc (Nat.le_refl _) _).alloc (by simp) _
  have z1 : w.heap.size + 2 ≤ W1.heap.size := by rw [hW1]; simp
  have xa : Im.Box W1 w.heap.size m := by rw [hW1]; exact (Im.Box.new w m _).below ((Below.refl (w.heap.size + 1) _).alloc (by simp) _) (by omega)
  have xb : Nt.Box W1 (w.heap.size + 1) ⟨16, i, t⟩ := by rw [hW1]; have := Nt.Box.new (w.alloc (.cells #[.slice m.lA m.l.length m.lC, .int .i64 m.m] 31)) ⟨16, i, t⟩ 53; simpa using this
  unfold Im.val
  have hcs := (Im.E_in (hin.below (b1.mono hB))).l
  have hkl : k < m.l.length := (List.getElem?_eq_some_iff.1 hc).1
  obtain ⟨cb, co, eC, hblk, c0, c1, c2, c3, _⟩ := Cd.at_ hcs (i := k) (x := c) hc
  obtain ⟨W2, hW2⟩ : ∃ W2, W2 = W1.alloc (.cells #[.int .i64 c.p, .int .i64 c.s, .int .i64 c.c, .slice c.lA c.l.length c.lC] 48) := ⟨_, rfl⟩
  have b2 : Below W1.heap.size W1 W2 := by rw [hW2]; exact (Below.refl _ _).alloc (Nat.le_refl _) _
  have z2 : W1.heap.size + 1 ≤ W2.heap.size := by rw [hW2]; simp
  have xc : Cd.Box W2 W1.heap.size c := by rw [hW2]; exact Cd.Box.new _ _ _
  have XA := Lib.hid (xa.below b2 (by omega))
  have XB := Lib.hid (xb.below b2 (by omega))
  have HC2 := Lib.hid (hcs.below (b2.mono (by omega)))
  have b3 : Below w.heap.size w W2 := b1.trans (b2.mono (by omega))
  have hcap := hcs.cap
  obtain ⟨a0, a1⟩ := xa
  obtain ⟨d0, d1, d2, d3, d4, d5⟩ := xb
  rw [eC] at a0
  have EC := Lib.hid eC
  clear eC
  have lk0 : (0 : Int) ≤ (k : Int) := by omega
  have lk : (k : Int) < (m.l.length : Int) := by omega
  have lb : cb < W1.heap.size := by omega
  have la : w.heap.size < W1.heap.size := by omega
  have lx : w.heap.size + 1 < W1.heap.size := by omega
  go_enter Try.func46, Try.ntmps46
  go_upto_region 1 with fail
  rw [← hW1]
  clear hW1
  go_upto_region 2 with fail
  rw [← hW2]
  clear hW2 a0 a1 d0 d1 d2 d3 d4 d5 c0 c1 c2 c3 lb la lx
  obtain ⟨a0, a1⟩ := XA.out
  obtain ⟨d0, d1, d2, d3, d4, d5⟩ := XB.out
  obtain ⟨c0, c1, c2, c3⟩ := xc
  have HQ : Hid (wthn true m.l k c 16 i = true) := by show _ = _; simp [wthn]
  go_wp2_with fail
  go_ret
  exact ⟨ret_bool HQ.out.symm, b3⟩

set_option maxRecDepth 100000 in
set_option maxHeartbeats 1000000 in
theorem specWi_17 (m : Im) (c : Cd) (k : Nat) (i : Int) (t : D) (B : Nat) (w : World) (hc : m.l[k]? = some c) (_hi0 : 0 ≤ i) (_hi1 : i ≤ 4000) (hin : Im.E.In w B m) (hB : B ≤ w.heap.size) :
    Calls Try.prog 46 #[Im.val m, .int .i64 (k : Int), .agg #[.int .i64 17, .int .i64 i, .int .i64 t.k, .int .i64 t.n, .string t.t, .slice t.A t.l.length t.c]] w fun e w' => e = .returned (.bool (wthn true m.l k c 17 i)) ∧ Below w.heap.size w w' := by
  obtain ⟨W1, hW1⟩ : ∃ W1, W1 = (w.alloc (.cells #[.slice m.lA m.l.length m.lC, .int .i64 m.m] 31)).alloc (.cells #[.int .i64 17, .int .i64 i, .int .i64 t.k, .int .i64 t.n, .string t.t, .slice t.A t.l.length t.c] 53) := ⟨_, rfl⟩
  have b1 : Below w.heap.size w W1 := by rw [hW1]; exact ((Below.refl _ _).alloc (Nat.le_refl _) _).alloc (by simp) _
  have z1 : w.heap.size + 2 ≤ W1.heap.size := by rw [hW1]; simp
  have xa : Im.Box W1 w.heap.size m := by rw [hW1]; exact (Im.Box.new w m _).below ((Below.refl (w.heap.size + 1) _).alloc (by simp) _) (by omega)
  have xb : Nt.Box W1 (w.heap.size + 1) ⟨17, i, t⟩ := by rw [hW1]; have := Nt.Box.new (w.alloc (.cells #[.slice m.lA m.l.length m.lC, .int .i64 m.m] 31)) ⟨17, i, t⟩ 53; simpa using this
  unfold Im.val
  have hcs := (Im.E_in (hin.below (b1.mono hB))).l
  have hkl : k < m.l.length := (List.getElem?_eq_some_iff.1 hc).1
  obtain ⟨cb, co, eC, hblk, c0, c1, c2, c3, _⟩ := Cd.at_ hcs (i := k) (x := c) hc
  obtain ⟨W2, hW2⟩ : ∃ W2, W2 = W1.alloc (.cells #[.int .i64 c.p, .int .i64 c.s, .int .i64 c.c, .slice c.lA c.l.length c.lC] 48) := ⟨_, rfl⟩
  have b2 : Below W1.heap.size W1 W2 := by rw [hW2]; exact (Below.refl _ _).alloc (Nat.le_refl _) _
  have z2 : W1.heap.size + 1 ≤ W2.heap.size := by rw [hW2]; simp
  have xc : Cd.Box W2 W1.heap.size c := by rw [hW2]; exact Cd.Box.new _ _ _
  have XA := Lib.hid (xa.below b2 (by omega))
  have XB := Lib.hid (xb.below b2 (by omega))
  have HC2 := Lib.hid (hcs.below (b2.mono (by omega)))
  have b3 : Below w.heap.size w W2 := b1.trans (b2.mono (by omega))
  have hcap := hcs.cap
  obtain ⟨a0, a1⟩ := xa
  obtain ⟨d0, d1, d2, d3, d4, d5⟩ := xb
  rw [eC] at a0
  have EC := Lib.hid eC
  clear eC
  have lk0 : (0 : Int) ≤ (k : Int) := by omega
  have lk : (k : Int) < (m.l.length : Int) := by omega
  have lb : cb < W1.heap.size := by omega
  have la : w.heap.size < W1.heap.size := by omega
  have lx : w.heap.size + 1 < W1.heap.size := by omega
  go_enter Try.func46, Try.ntmps46
  go_upto_region 1 with fail
  rw [← hW1]
  clear hW1
  go_upto_region 2 with fail
  rw [← hW2]
  clear hW2 a0 a1 d0 d1 d2 d3 d4 d5 c0 c1 c2 c3 lb la lx
  obtain ⟨a0, a1⟩ := XA.out
  obtain ⟨d0, d1, d2, d3, d4, d5⟩ := XB.out
  obtain ⟨c0, c1, c2, c3⟩ := xc
  have HQ : Hid (wthn true m.l k c 17 i = true) := by show _ = _; simp [wthn]
  go_wp2_with fail
  go_ret
  exact ⟨ret_bool HQ.out.symm, b3⟩

set_option maxRecDepth 100000 in
set_option maxHeartbeats 1000000 in
theorem specWi_18 (m : Im) (c : Cd) (k : Nat) (i : Int) (t : D) (B : Nat) (w : World) (hc : m.l[k]? = some c) (hi0 : 0 ≤ i) (hi1 : i ≤ 4000) (hin : Im.E.In w B m) (hB : B ≤ w.heap.size) :
    Calls Try.prog 46 #[Im.val m, .int .i64 (k : Int), .agg #[.int .i64 18, .int .i64 i, .int .i64 t.k, .int .i64 t.n, .string t.t, .slice t.A t.l.length t.c]] w fun e w' => e = .returned (.bool (wthn true m.l k c 18 i)) ∧ Below w.heap.size w w' := by
  obtain ⟨W1, hW1⟩ : ∃ W1, W1 = (w.alloc (.cells #[.slice m.lA m.l.length m.lC, .int .i64 m.m] 31)).alloc (.cells #[.int .i64 18, .int .i64 i, .int .i64 t.k, .int .i64 t.n, .string t.t, .slice t.A t.l.length t.c] 53) := ⟨_, rfl⟩
  have b1 : Below w.heap.size w W1 := by rw [hW1]; exact ((Below.refl _ _).alloc (Nat.le_refl _) _).alloc (by simp) _
  have z1 : w.heap.size + 2 ≤ W1.heap.size := by rw [hW1]; simp
  have xa : Im.Box W1 w.heap.size m := by rw [hW1]; exact (Im.Box.new w m _).below ((Below.refl (w.heap.size + 1) _).alloc (by simp) _) (by omega)
  have xb : Nt.Box W1 (w.heap.size + 1) ⟨18, i, t⟩ := by rw [hW1]; have := Nt.Box.new (w.alloc (.cells #[.slice m.lA m.l.length m.lC, .int .i64 m.m] 31)) ⟨18, i, t⟩ 53; simpa using this
  unfold Im.val
  have hcs := (Im.E_in (hin.below (b1.mono hB))).l
  have hkl : k < m.l.length := (List.getElem?_eq_some_iff.1 hc).1
  obtain ⟨cb, co, eC, hblk, c0, c1, c2, c3, _⟩ := Cd.at_ hcs (i := k) (x := c) hc
  obtain ⟨W2, hW2⟩ : ∃ W2, W2 = W1.alloc (.cells #[.int .i64 c.p, .int .i64 c.s, .int .i64 c.c, .slice c.lA c.l.length c.lC] 48) := ⟨_, rfl⟩
  have b2 : Below W1.heap.size W1 W2 := by rw [hW2]; exact (Below.refl _ _).alloc (Nat.le_refl _) _
  have z2 : W1.heap.size + 1 ≤ W2.heap.size := by rw [hW2]; simp
  have xc : Cd.Box W2 W1.heap.size c := by rw [hW2]; exact Cd.Box.new _ _ _
  have XA := Lib.hid (xa.below b2 (by omega))
  have XB := Lib.hid (xb.below b2 (by omega))
  have HC2 := Lib.hid (hcs.below (b2.mono (by omega)))
  have b3 : Below w.heap.size w W2 := b1.trans (b2.mono (by omega))
  have hcap := hcs.cap
  obtain ⟨a0, a1⟩ := xa
  obtain ⟨d0, d1, d2, d3, d4, d5⟩ := xb
  rw [eC] at a0
  have EC := Lib.hid eC
  clear eC
  have lk0 : (0 : Int) ≤ (k : Int) := by omega
  have lk : (k : Int) < (m.l.length : Int) := by omega
  have lb : cb < W1.heap.size := by omega
  have la : w.heap.size < W1.heap.size := by omega
  have lx : w.heap.size + 1 < W1.heap.size := by omega
  go_enter Try.func46, Try.ntmps46
  go_upto_region 1 with fail
  rw [← hW1]
  clear hW1
  go_upto_region 2 with fail
  rw [← hW2]
  clear hW2 a0 a1 d0 d1 d2 d3 d4 d5 c0 c1 c2 c3 lb la lx
  obtain ⟨a0, a1⟩ := XA.out
  obtain ⟨d0, d1, d2, d3, d4, d5⟩ := XB.out
  obtain ⟨c0, c1, c2, c3⟩ := xc
  by_cases h : i < (k : Int)
  · have hd := decide_eq_true h
    obtain ⟨j, rfl⟩ : ∃ j : Nat, i = j := ⟨i.toNat, by omega⟩
    have hjl : j < m.l.length := by omega
    obtain ⟨eb, eo, eE, ebl, e0, _, _, _, _⟩ := Cd.at_ HC2.out (i := j) (x := m.l[j]) (List.getElem?_eq_getElem hjl)
    rw [← Cd.at'_get hjl] at e0
    have HQ : Hid (wthn true m.l k c 18 (j : Int) = ((Cd.at' m.l (j : Int)).p == 0)) := by show _ = _; simp [wthn, h]
    obtain ⟨V, hV⟩ : ∃ V, V = (Cd.at' m.l (j : Int)).p := ⟨_, rfl⟩
    rw [← hV] at e0 HQ
    rw [EC.out] at eE
    obtain ⟨rfl, rfl⟩ : cb = eb ∧ co = eo := by simpa using eE
    clear hV eE
    rw [EC.out] at a0
    have lj : (j : Int) < (m.l.length : Int) := by omega
    have lb : cb < W2.heap.size := by omega
    go_wp2_with fail
    go_ret
    exact ⟨ret_bool HQ.out.symm, b3⟩
  · have hd := decide_eq_false h
    have HQ : Hid (wthn true m.l k c 18 i = false) := by show _ = _; simp [wthn, h]
    go_wp2_with fail
    go_ret
    exact ⟨ret_bool HQ.out.symm, b3⟩

set_option maxRecDepth 100000 in
set_option maxHeartbeats 1000000 in
theorem specWi_19 (m : Im) (c : Cd) (k : Nat) (i : Int) (t : D) (B : Nat) (w : World) (hc : m.l[k]? = some c) (hi0 : 0 ≤ i) (hi1 : i ≤ 4000) (hin : Im.E.In w B m) (hB : B ≤ w.heap.size) :
    Calls Try.prog 46 #[Im.val m, .int .i64 (k : Int), .agg #[.int .i64 19, .int .i64 i, .int .i64 t.k, .int .i64 t.n, .string t.t, .slice t.A t.l.length t.c]] w fun e w' => e = .returned (.bool (wthn true m.l k c 19 i)) ∧ Below w.heap.size w w' := by
  obtain ⟨W1, hW1⟩ : ∃ W1, W1 = (w.alloc (.cells #[.slice m.lA m.l.length m.lC, .int .i64 m.m] 31)).alloc (.cells #[.int .i64 19, .int .i64 i, .int .i64 t.k, .int .i64 t.n, .string t.t, .slice t.A t.l.length t.c] 53) := ⟨_, rfl⟩
  have b1 : Below w.heap.size w W1 := by rw [hW1]; exact ((Below.refl _ _).alloc (Nat.le_refl _) _).alloc (by simp) _
  have z1 : w.heap.size + 2 ≤ W1.heap.size := by rw [hW1]; simp
  have xa : Im.Box W1 w.heap.size m := by rw [hW1]; exact (Im.Box.new w m _).below ((Below.refl (w.heap.size + 1) _).alloc (by simp) _) (by omega)
  have xb : Nt.Box W1 (w.heap.size + 1) ⟨19, i, t⟩ := by rw [hW1]; have := Nt.Box.new (w.alloc (.cells #[.slice m.lA m.l.length m.lC, .int .i64 m.m] 31)) ⟨19, i, t⟩ 53; simpa using this
  unfold Im.val
  have hcs := (Im.E_in (hin.below (b1.mono hB))).l
  have hkl : k < m.l.length := (List.getElem?_eq_some_iff.1 hc).1
  obtain ⟨cb, co, eC, hblk, c0, c1, c2, c3, _⟩ := Cd.at_ hcs (i := k) (x := c) hc
  obtain ⟨W2, hW2⟩ : ∃ W2, W2 = W1.alloc (.cells #[.int .i64 c.p, .int .i64 c.s, .int .i64 c.c, .slice c.lA c.l.length c.lC] 48) := ⟨_, rfl⟩
  have b2 : Below W1.heap.size W1 W2 := by rw [hW2]; exact (Below.refl _ _).alloc (Nat.le_refl _) _
  have z2 : W1.heap.size + 1 ≤ W2.heap.size := by rw [hW2]; simp
  have xc : Cd.Box W2 W1.heap.size c := by rw [hW2]; exact Cd.Box.new _ _ _
  have XA := Lib.hid (xa.below b2 (by omega))
  have XB := Lib.hid (xb.below b2 (by omega))
  have HC2 := Lib.hid (hcs.below (b2.mono (by omega)))
  have b3 : Below w.heap.size w W2 := b1.trans (b2.mono (by omega))
  have hcap := hcs.cap
  obtain ⟨a0, a1⟩ := xa
  obtain ⟨d0, d1, d2, d3, d4, d5⟩ := xb
  rw [eC] at a0
  have EC := Lib.hid eC
  clear eC
  have lk0 : (0 : Int) ≤ (k : Int) := by omega
  have lk : (k : Int) < (m.l.length : Int) := by omega
  have lb : cb < W1.heap.size := by omega
  have la : w.heap.size < W1.heap.size := by omega
  have lx : w.heap.size + 1 < W1.heap.size := by omega
  go_enter Try.func46, Try.ntmps46
  go_upto_region 1 with fail
  rw [← hW1]
  clear hW1
  go_upto_region 2 with fail
  rw [← hW2]
  clear hW2 a0 a1 d0 d1 d2 d3 d4 d5 c0 c1 c2 c3 lb la lx
  obtain ⟨a0, a1⟩ := XA.out
  obtain ⟨d0, d1, d2, d3, d4, d5⟩ := XB.out
  obtain ⟨c0, c1, c2, c3⟩ := xc
  by_cases h : i < (k : Int)
  · have hd := decide_eq_true h
    obtain ⟨j, rfl⟩ : ∃ j : Nat, i = j := ⟨i.toNat, by omega⟩
    have hjl : j < m.l.length := by omega
    obtain ⟨eb, eo, eE, ebl, e0, _, _, _, _⟩ := Cd.at_ HC2.out (i := j) (x := m.l[j]) (List.getElem?_eq_getElem hjl)
    rw [← Cd.at'_get hjl] at e0
    have HQ : Hid (wthn true m.l k c 19 (j : Int) = ((Cd.at' m.l (j : Int)).p == 1)) := by show _ = _; simp [wthn, h]
    obtain ⟨V, hV⟩ : ∃ V, V = (Cd.at' m.l (j : Int)).p := ⟨_, rfl⟩
    rw [← hV] at e0 HQ
    rw [EC.out] at eE
    obtain ⟨rfl, rfl⟩ : cb = eb ∧ co = eo := by simpa using eE
    clear hV eE
    rw [EC.out] at a0
    have lj : (j : Int) < (m.l.length : Int) := by omega
    have lb : cb < W2.heap.size := by omega
    go_wp2_with fail
    go_ret
    exact ⟨ret_bool HQ.out.symm, b3⟩
  · have hd := decide_eq_false h
    have HQ : Hid (wthn true m.l k c 19 i = false) := by show _ = _; simp [wthn, h]
    go_wp2_with fail
    go_ret
    exact ⟨ret_bool HQ.out.symm, b3⟩

set_option maxRecDepth 100000 in
set_option maxHeartbeats 1000000 in
theorem specWi_20 (m : Im) (c : Cd) (k : Nat) (i : Int) (t : D) (B : Nat) (w : World) (hc : m.l[k]? = some c) (hi0 : 0 ≤ i) (hi1 : i ≤ 4000) (hin : Im.E.In w B m) (hB : B ≤ w.heap.size) :
    Calls Try.prog 46 #[Im.val m, .int .i64 (k : Int), .agg #[.int .i64 20, .int .i64 i, .int .i64 t.k, .int .i64 t.n, .string t.t, .slice t.A t.l.length t.c]] w fun e w' => e = .returned (.bool (wthn true m.l k c 20 i)) ∧ Below w.heap.size w w' := by
  obtain ⟨W1, hW1⟩ : ∃ W1, W1 = (w.alloc (.cells #[.slice m.lA m.l.length m.lC, .int .i64 m.m] 31)).alloc (.cells #[.int .i64 20, .int .i64 i, .int .i64 t.k, .int .i64 t.n, .string t.t, .slice t.A t.l.length t.c] 53) := ⟨_, rfl⟩
  have b1 : Below w.heap.size w W1 := by rw [hW1]; exact ((Below.refl _ _).alloc (Nat.le_refl _) _).alloc (by simp) _
  have z1 : w.heap.size + 2 ≤ W1.heap.size := by rw [hW1]; simp
  have xa : Im.Box W1 w.heap.size m := by rw [hW1]; exact (Im.Box.new w m _).below ((Below.refl (w.heap.size + 1) _).alloc (by simp) _) (by omega)
  have xb : Nt.Box W1 (w.heap.size + 1) ⟨20, i, t⟩ := by rw [hW1]; have := Nt.Box.new (w.alloc (.cells #[.slice m.lA m.l.length m.lC, .int .i64 m.m] 31)) ⟨20, i, t⟩ 53; simpa using this
  unfold Im.val
  have hcs := (Im.E_in (hin.below (b1.mono hB))).l
  have hkl : k < m.l.length := (List.getElem?_eq_some_iff.1 hc).1
  obtain ⟨cb, co, eC, hblk, c0, c1, c2, c3, _⟩ := Cd.at_ hcs (i := k) (x := c) hc
  obtain ⟨W2, hW2⟩ : ∃ W2, W2 = W1.alloc (.cells #[.int .i64 c.p, .int .i64 c.s, .int .i64 c.c, .slice c.lA c.l.length c.lC] 48) := ⟨_, rfl⟩
  have b2 : Below W1.heap.size W1 W2 := by rw [hW2]; exact (Below.refl _ _).alloc (Nat.le_refl _) _
  have z2 : W1.heap.size + 1 ≤ W2.heap.size := by rw [hW2]; simp
  have xc : Cd.Box W2 W1.heap.size c := by rw [hW2]; exact Cd.Box.new _ _ _
  have XA := Lib.hid (xa.below b2 (by omega))
  have XB := Lib.hid (xb.below b2 (by omega))
  have HC2 := Lib.hid (hcs.below (b2.mono (by omega)))
  have b3 : Below w.heap.size w W2 := b1.trans (b2.mono (by omega))
  have hcap := hcs.cap
  obtain ⟨a0, a1⟩ := xa
  obtain ⟨d0, d1, d2, d3, d4, d5⟩ := xb
  rw [eC] at a0
  have EC := Lib.hid eC
  clear eC
  have lk0 : (0 : Int) ≤ (k : Int) := by omega
  have lk : (k : Int) < (m.l.length : Int) := by omega
  have lb : cb < W1.heap.size := by omega
  have la : w.heap.size < W1.heap.size := by omega
  have lx : w.heap.size + 1 < W1.heap.size := by omega
  go_enter Try.func46, Try.ntmps46
  go_upto_region 1 with fail
  rw [← hW1]
  clear hW1
  go_upto_region 2 with fail
  rw [← hW2]
  clear hW2 a0 a1 d0 d1 d2 d3 d4 d5 c0 c1 c2 c3 lb la lx
  obtain ⟨a0, a1⟩ := XA.out
  obtain ⟨d0, d1, d2, d3, d4, d5⟩ := XB.out
  obtain ⟨c0, c1, c2, c3⟩ := xc
  by_cases h : i < (k : Int)
  · have hd := decide_eq_true h
    obtain ⟨j, rfl⟩ : ∃ j : Nat, i = j := ⟨i.toNat, by omega⟩
    have hjl : j < m.l.length := by omega
    obtain ⟨eb, eo, eE, ebl, e0, _, _, _, _⟩ := Cd.at_ HC2.out (i := j) (x := m.l[j]) (List.getElem?_eq_getElem hjl)
    rw [← Cd.at'_get hjl] at e0
    have HQ : Hid (wthn true m.l k c 20 (j : Int) = ((Cd.at' m.l (j : Int)).p == 0)) := by show _ = _; simp [wthn, h]
    obtain ⟨V, hV⟩ : ∃ V, V = (Cd.at' m.l (j : Int)).p := ⟨_, rfl⟩
    rw [← hV] at e0 HQ
    rw [EC.out] at eE
    obtain ⟨rfl, rfl⟩ : cb = eb ∧ co = eo := by simpa using eE
    clear hV eE
    rw [EC.out] at a0
    have lj : (j : Int) < (m.l.length : Int) := by omega
    have lb : cb < W2.heap.size := by omega
    go_wp2_with fail
    go_ret
    exact ⟨ret_bool HQ.out.symm, b3⟩
  · have hd := decide_eq_false h
    have HQ : Hid (wthn true m.l k c 20 i = false) := by show _ = _; simp [wthn, h]
    go_wp2_with fail
    go_ret
    exact ⟨ret_bool HQ.out.symm, b3⟩
theorem specWi_any (m : Im) (c : Cd) (k : Nat) (x : Nt) (B : Nat) (w : World) (hc : m.l[k]? = some c) (ho : 1 ≤ x.o ∧ x.o ≤ 20) (hi0 : 0 ≤ x.i) (hi1 : x.i ≤ 4000) (h9 : 0 ≤ c.s ∧ c.s ≤ 500) (hin : Im.E.In w B m) (hB : B ≤ w.heap.size) :
    Calls Try.prog 46 #[Im.val m, .int .i64 (k : Int), Nt.val x] w fun e w' => e = .returned (.bool (x.within true m.l k c)) ∧ Below w.heap.size w w' := by
  obtain ⟨o, i, t⟩ := x
  obtain ⟨n, rfl⟩ : ∃ n : Nat, o = n := ⟨o.toNat, by have := ho.1; dsimp only at this; omega⟩
  have hk : n < 21 := by have := ho.2; dsimp only at this; omega
  have hk0 : 0 < n := by have := ho.1; dsimp only at this; omega
  dsimp only at hi0 hi1
  match n, hk, hk0 with
  | 1, _, _ => exact (specWi_1 m c k i t B w hc hi0 hi1 hin hB)
  | 2, _, _ => exact (specWi_2 m c k i t B w hc hi0 hi1 hin hB)
  | 3, _, _ => exact (specWi_3 m c k i t B w hc hi0 hi1 hin hB)
  | 4, _, _ => exact (specWi_4 m c k i t B w hc hi0 hi1 hin hB)
  | 5, _, _ => exact (specWi_5 m c k i t B w hc hi0 hi1 hin hB)
  | 6, _, _ => exact (specWi_6 m c k i t B w hc hi0 hi1 hin hB)
  | 7, _, _ => exact (specWi_7 m c k i t B w hc hi0 hi1 hin hB)
  | 8, _, _ => exact (specWi_8 m c k i t B w hc hi0 hi1 hin hB)
  | 9, _, _ => exact (specWi_9 m c k i t B w hc hi0 hi1 h9 hin hB)
  | 10, _, _ => exact (specWi_10 m c k i t B w hc hi0 hi1 hin hB)
  | 11, _, _ => exact (specWi_11 m c k i t B w hc hi0 hi1 hin hB)
  | 12, _, _ => exact (specWi_12 m c k i t B w hc hi0 hi1 hin hB)
  | 13, _, _ => exact (specWi_13 m c k i t B w hc hi0 hi1 hin hB)
  | 14, _, _ => exact (specWi_14 m c k i t B w hc hi0 hi1 hin hB)
  | 15, _, _ => exact (specWi_15 m c k i t B w hc hi0 hi1 hin hB)
  | 16, _, _ => exact (specWi_16 m c k i t B w hc hi0 hi1 hin hB)
  | 17, _, _ => exact (specWi_17 m c k i t B w hc hi0 hi1 hin hB)
  | 18, _, _ => exact (specWi_18 m c k i t B w hc hi0 hi1 hin hB)
  | 19, _, _ => exact (specWi_19 m c k i t B w hc hi0 hi1 hin hB)
  | 20, _, _ => exact (specWi_20 m c k i t B w hc hi0 hi1 hin hB)
  | n + 21, hn, _ => exact absurd hn (by omega)
end Go.Proofs.Ytpigpncbjckbcaa
