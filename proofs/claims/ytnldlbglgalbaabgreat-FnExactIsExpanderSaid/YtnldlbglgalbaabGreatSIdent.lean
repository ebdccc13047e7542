/-
  Identifiers: the model's and the program's IsIdentifier.
-/
import Derived.Test.YtnldlbglgalbaabGreatSFits
namespace Go.Proofs.YtnldlbglgalbaabGreat
open Go.RowKit
namespace S
def isI (d : S) : Bool := decide (d.k = 1) && d.isS
theorem k_of_er {d e : S} (h : er d = er e) : d.k = e.k := by cases d; cases e; simp only [er, S.mk.injEq] at h; exact h.1
theorem isI_of_er {d e : S} (h : er d = er e) : isI d = isI e := by unfold isI; rw [k_of_er h, isS_of_er h]
end S

set_option maxHeartbeats 800000 in
theorem implIdent_any (d : S) (B : Nat) (w : World) (hin : d.In w B) (hB : B ≤ w.heap.size) : Calls Tryz.prog 104 #[d.val] w fun e w' => e = .returned (.bool d.isI) ∧ Below w.heap.size w w' := by
  have K : Hid (d.isI = (decide (d.k = 1) && d.isS)) := rfl
  have bA : Below w.heap.size w (w.alloc (.cells #[.int .i64 d.k, .int .i64 d.n, .string d.t, .slice d.sa d.s.length d.sc, .slice d.A d.l.length d.c] 43)) := (Below.refl _ _).alloc (Nat.le_refl _) _
  have hA := hin.alloc hB (.cells #[.int .i64 d.k, .int .i64 d.n, .string d.t, .slice d.sa d.s.length d.sc, .slice d.A d.l.length d.c] 43)
  unfold S.val
  by_cases h : d.k = 1
  · have e1 : (d.k == 1) = true := by simp [h]
    have H := Lib.hid (decide_eq_true h)
    clear h
    go_enter Tryz.func104, Tryz.ntmps104
    go_wp2_with fail
    refine (implIsS_any d B _ hA (by simp; omega)).mono ?_
    rintro e w1 ⟨rfl, hb1⟩
    go_wp2_with fail
    go_ret
    exact ⟨ret_bool (by rw [K.out, H.out]; rfl), bA.trans (hb1.mono (by simp))⟩
  · have e1 : (d.k == 1) = false := by simpa using h
    have H := Lib.hid (decide_eq_false h)
    clear h
    go_enter Tryz.func104, Tryz.ntmps104
    go_wp2_with fail
    go_ret
    exact ⟨ret_bool (by rw [K.out, H.out]; rfl), bA⟩

set_option maxHeartbeats 800000 in
theorem specIdent_any (d : S) (B : Nat) (w : World) (hin : d.In w B) (hB : B ≤ w.heap.size) (hs : d.size ≤ 2000000) : Calls Tryz.prog 65 #[d.val] w fun e w' => e = .returned (.bool d.isI) ∧ Below w.heap.size w w' := by
  have K : Hid (d.isI = (decide (d.k = 1) && d.isS)) := rfl
  have bA : Below w.heap.size w (w.alloc (.cells #[.int .i64 d.k, .int .i64 d.n, .string d.t, .slice d.sa d.s.length d.sc, .slice d.A d.l.length d.c] 43)) := (Below.refl _ _).alloc (Nat.le_refl _) _
  have hA := hin.alloc hB (.cells #[.int .i64 d.k, .int .i64 d.n, .string d.t, .slice d.sa d.s.length d.sc, .slice d.A d.l.length d.c] 43)
  unfold S.val
  by_cases h : d.k = 1
  · have e1 : (d.k == 1) = true := by simp [h]
    have H := Lib.hid (decide_eq_true h)
    clear h
    go_enter Tryz.func65, Tryz.ntmps65
    go_wp2_with fail
    refine (specIsS_any d B _ hA (by simp; omega) hs).mono ?_
    rintro e w1 ⟨rfl, hb1⟩
    go_wp2_with fail
    go_ret
    exact ⟨ret_bool (by rw [K.out, H.out]; rfl), bA.trans (hb1.mono (by simp))⟩
  · have e1 : (d.k == 1) = false := by simpa using h
    have H := Lib.hid (decide_eq_false h)
    clear h
    go_enter Tryz.func65, Tryz.ntmps65
    go_wp2_with fail
    go_ret
    exact ⟨ret_bool (by rw [K.out, H.out]; rfl), bA⟩
end Go.Proofs.YtnldlbglgalbaabGreat
