/-
  Ellipses: the model's and the program's IsEllipsis.
-/
import Derived.Test.YtikjipkhebedfaaSIdent
import Derived.Test.YtikjipkhebedfaaSSame
import Derived.Deep.RegionHeld3
namespace Go.Proofs.Ytikjipkhebedfaa
open Go.RowKit
namespace S
def isDots (d : S) : Bool := decide (d.k = 1) && (d.t.toList == [46, 46, 46])
def isEl (d : S) : Bool := d.isDots && d.isI
theorem isDots_of_er {d e : S} (h : er d = er e) : isDots d = isDots e := by unfold isDots; rw [k_of_er h, t_of_er h]
theorem isEl_of_er {d e : S} (h : er d = er e) : isEl d = isEl e := by unfold isEl; rw [isDots_of_er h, isI_of_er h]
end S

set_option maxHeartbeats 800000 in
theorem implDots_any (d : S) (w : World) : Calls Try.prog 95 #[d.val] w fun e w' => e = .returned (.bool d.isDots) ∧ Below w.heap.size w w' := by
  have K : Hid (d.isDots = (decide (d.k = 1) && (d.t.toList == [46, 46, 46]))) := rfl
  have bA : Below w.heap.size w (w.alloc (.cells #[.int .i64 d.k, .int .i64 d.n, .string d.t, .slice d.sa d.s.length d.sc, .slice d.A d.l.length d.c] 57)) := (Below.refl _ _).alloc (Nat.le_refl _) _
  unfold S.val
  by_cases h : d.k = 1
  · have e1 : (d.k == 1) = true := by simp [h]
    have H := Lib.hid (decide_eq_true h)
    clear h
    go_enter Try.func95, Try.ntmps95
    go_wp2_with fail
    go_ret
    exact ⟨ret_bool (by rw [K.out, H.out, Bool.true_and]), bA⟩
  · have e1 : (d.k == 1) = false := by simpa using h
    have H := Lib.hid (decide_eq_false h)
    clear h
    go_enter Try.func95, Try.ntmps95
    go_wp2_with fail
    go_ret
    exact ⟨ret_bool (by rw [K.out, H.out]; rfl), bA⟩
set_option maxHeartbeats 800000 in
theorem specDots_any (d : S) (w : World) : Calls Try.prog 94 #[d.val] w fun e w' => e = .returned (.bool d.isDots) ∧ Below w.heap.size w w' := by
  have K : Hid (d.isDots = (decide (d.k = 1) && (d.t.toList == [46, 46, 46]))) := rfl
  have bA : Below w.heap.size w (w.alloc (.cells #[.int .i64 d.k, .int .i64 d.n, .string d.t, .slice d.sa d.s.length d.sc, .slice d.A d.l.length d.c] 57)) := (Below.refl _ _).alloc (Nat.le_refl _) _
  unfold S.val
  by_cases h : d.k = 1
  · have e1 : (d.k == 1) = true := by simp [h]
    have H := Lib.hid (decide_eq_true h)
    clear h
    go_enter Try.func94, Try.ntmps94
    go_wp2_with fail
    go_ret
    exact ⟨ret_bool (by rw [K.out, H.out, Bool.true_and]), bA⟩
  · have e1 : (d.k == 1) = false := by simpa using h
    have H := Lib.hid (decide_eq_false h)
    clear h
    go_enter Try.func94, Try.ntmps94
    go_wp2_with fail
    go_ret
    exact ⟨ret_bool (by rw [K.out, H.out]; rfl), bA⟩

set_option maxHeartbeats 800000 in
theorem implEl_any (d : S) (B : Nat) (w : World) (hin : d.In w B) (hB : B ≤ w.heap.size) : Calls Try.prog 43 #[d.val] w fun e w' => e = .returned (.bool d.isEl) ∧ Below w.heap.size w w' := by
  have K : Hid (d.isEl = (d.isDots && d.isI)) := rfl
  have bA : Below w.heap.size w (w.alloc (.cells #[.int .i64 d.k, .int .i64 d.n, .string d.t, .slice d.sa d.s.length d.sc, .slice d.A d.l.length d.c] 57)) := (Below.refl _ _).alloc (Nat.le_refl _) _
  have x0 := S.Box.new w d 57
  have lt0 : w.heap.size < (w.alloc (.cells #[.int .i64 d.k, .int .i64 d.n, .string d.t, .slice d.sa d.s.length d.sc, .slice d.A d.l.length d.c] 57)).heap.size := by simp
  have hA := hin.alloc hB (.cells #[.int .i64 d.k, .int .i64 d.n, .string d.t, .slice d.sa d.s.length d.sc, .slice d.A d.l.length d.c] 57)
  obtain ⟨W1, hW1⟩ : ∃ W1, W1 = w.alloc (.cells #[.int .i64 d.k, .int .i64 d.n, .string d.t, .slice d.sa d.s.length d.sc, .slice d.A d.l.length d.c] 57) := ⟨_, rfl⟩
  rw [← hW1] at x0 lt0 hA bA
  have x1 := x0
  obtain ⟨a0, a1, a2, a3, a4⟩ := x1
  have hd1 := implDots_any d W1
  have hd2 := fun w' => implIdent_any d B w'
  unfold S.val at hd1 hd2 ⊢
  go_enter Try.func43, Try.ntmps43
  go_wp2_with fail
  rw [← hW1]
  clear hW1
  go_wp2_with fail
  refine hd1.mono ?_
  rintro e w1 ⟨rfl, hb1⟩
  have x0 := S.Box.below x0 hb1 (by omega)
  have hA := hA.below (hb1.mono (by omega))
  have z1 := hb1.size
  clear a0 a1 a2 a3 a4 hd1
  obtain ⟨a0, a1, a2, a3, a4⟩ := x0
  cases hq : d.isDots
  · have HQ := Lib.hid hq
    clear hq
    go_wp2_with fail
    go_ret
    exact ⟨ret_bool (by rw [K.out, HQ.out]; rfl), bA.trans (hb1.mono (by omega))⟩
  · have HQ := Lib.hid hq
    clear hq
    go_wp2_with fail
    refine (hd2 _ hA (by omega)).mono ?_
    rintro e w2 ⟨rfl, hb2⟩
    go_wp2_with fail
    go_ret
    exact ⟨ret_bool (by rw [K.out, HQ.out]; rfl), (bA.trans (hb1.mono (by omega))).trans (hb2.mono (by omega))⟩
set_option maxHeartbeats 800000 in
theorem specEl_any (d : S) (B : Nat) (w : World) (hin : d.In w B) (hB : B ≤ w.heap.size) (hs : d.size ≤ 2000000) : Calls Try.prog 42 #[d.val] w fun e w' => e = .returned (.bool d.isEl) ∧ Below w.heap.size w w' := by
  have K : Hid (d.isEl = (d.isI && d.isDots)) := Bool.and_comm _ _
  have bA : Below w.heap.size w (w.alloc (.cells #[.int .i64 d.k, .int .i64 d.n, .string d.t, .slice d.sa d.s.length d.sc, .slice d.A d.l.length d.c] 57)) := (Below.refl _ _).alloc (Nat.le_refl _) _
  have x0 := S.Box.new w d 57
  have lt0 : w.heap.size < (w.alloc (.cells #[.int .i64 d.k, .int .i64 d.n, .string d.t, .slice d.sa d.s.length d.sc, .slice d.A d.l.length d.c] 57)).heap.size := by simp
  have hA := hin.alloc hB (.cells #[.int .i64 d.k, .int .i64 d.n, .string d.t, .slice d.sa d.s.length d.sc, .slice d.A d.l.length d.c] 57)
  obtain ⟨W1, hW1⟩ : ∃ W1, W1 = w.alloc (.cells #[.int .i64 d.k, .int .i64 d.n, .string d.t, .slice d.sa d.s.length d.sc, .slice d.A d.l.length d.c] 57) := ⟨_, rfl⟩
  rw [← hW1] at x0 lt0 hA bA
  have x1 := x0
  obtain ⟨a0, a1, a2, a3, a4⟩ := x1
  have hd1 := fun w1 => specDots_any d w1
  have hd2 := specIdent_any d B W1 hA (by rw [hW1]; simp; omega) hs
  unfold S.val at hd1 hd2 ⊢
  go_enter Try.func42, Try.ntmps42
  go_wp2_with fail
  rw [← hW1]
  clear hW1
  go_wp2_with fail
  refine hd2.mono ?_
  rintro e w1 ⟨rfl, hb1⟩
  have x0 := S.Box.below x0 hb1 (by omega)
  have hA := hA.below (hb1.mono (by omega))
  have z1 := hb1.size
  clear a0 a1 a2 a3 a4 hd2
  obtain ⟨a0, a1, a2, a3, a4⟩ := x0
  cases hq : d.isI
  · have HQ := Lib.hid hq
    clear hq
    go_wp2_with fail
    go_ret
    exact ⟨ret_bool (by rw [K.out, HQ.out]; rfl), bA.trans (hb1.mono (by omega))⟩
  · have HQ := Lib.hid hq
    clear hq
    go_wp2_with fail
    refine (hd1 _).mono ?_
    rintro e w2 ⟨rfl, hb2⟩
    go_wp2_with fail
    go_ret
    exact ⟨ret_bool (by rw [K.out, HQ.out]; rfl), (bA.trans (hb1.mono (by omega))).trans (hb2.mono (by omega))⟩
end Go.Proofs.Ytikjipkhebedfaa
