/-
  Ellipses: the model's and the program's IsEllipsis.
-/
import Derived.Test.YtnldlbglgalbaabGreatSIdent
import Derived.Test.YtnldlbglgalbaabGreatSSame
import Derived.Deep.RegionHeld3
namespace Go.Proofs.YtnldlbglgalbaabGreat
open Go.RowKit
namespace S
def isDots (d : S) : Bool := decide (d.k = 1) && (d.t.toList == [46, 46, 46])
def isEl (d : S) : Bool := d.isDots && d.isI
theorem isDots_of_er {d e : S} (h : er d = er e) : isDots d = isDots e := by unfold isDots; rw [k_of_er h, t_of_er h]
theorem isEl_of_er {d e : S} (h : er d = er e) : isEl d = isEl e := by unfold isEl; rw [isDots_of_er h, isI_of_er h]
end S

set_option maxHeartbeats 800000 in
theorem implDots_any (d : S) (w : World) : Calls Tryz.prog 76 #[d.val] w fun e w' => e = .returned (.bool d.isDots) ∧ Below w.heap.size w w' := by
  have K : Hid (d.isDots = (decide (d.k = 1) && (d.t.toList == [46, 46, 46]))) := rfl
  have bA : Below w.heap.size w (w.alloc (.cells #[.int .i64 d.k, .int .i64 d.n, .string d.t, .slice d.sa d.s.length d.sc, .slice d.A d.l.length d.c] 43)) := (Below.refl _ _).alloc (Nat.le_refl _) _
  unfold S.val
  by_cases h : d.k = 1
  · have e1 : (d.k == 1) = true := by simp [h]
    have H := Lib.hid (decide_eq_true h)
    clear h
    go_enter Tryz.func76, Tryz.ntmps76
    go_wp2_with fail
    go_ret
    exact ⟨ret_bool (by rw [K.out, H.out, Bool.true_and]), bA⟩
  · have e1 : (d.k == 1) = false := by simpa using h
    have H := Lib.hid (decide_eq_false h)
    clear h
    go_enter Tryz.func76, Tryz.ntmps76
    go_wp2_with fail
    go_ret
    exact ⟨ret_bool (by rw [K.out, H.out]; rfl), bA⟩
set_option maxHeartbeats 800000 in
theorem specDots_any (d : S) (w : World) : Calls Tryz.prog 32 #[d.val] w fun e w' => e = .returned (.bool d.isDots) ∧ Below w.heap.size w w' := by
  have K : Hid (d.isDots = (decide (d.k = 1) && (d.t.toList == [46, 46, 46]))) := rfl
  have bA : Below w.heap.size w (w.alloc (.cells #[.int .i64 d.k, .int .i64 d.n, .string d.t, .slice d.sa d.s.length d.sc, .slice d.A d.l.length d.c] 43)) := (Below.refl _ _).alloc (Nat.le_refl _) _
  unfold S.val
  by_cases h : d.k = 1
  · have e1 : (d.k == 1) = true := by simp [h]
    have H := Lib.hid (decide_eq_true h)
    clear h
    go_enter Tryz.func32, Tryz.ntmps32
    go_wp2_with fail
    go_ret
    exact ⟨ret_bool (by rw [K.out, H.out, Bool.true_and]), bA⟩
  · have e1 : (d.k == 1) = false := by simpa using h
    have H := Lib.hid (decide_eq_false h)
    clear h
    go_enter Tryz.func32, Tryz.ntmps32
    go_wp2_with fail
    go_ret
    exact ⟨ret_bool (by rw [K.out, H.out]; rfl), bA⟩

end Go.Proofs.YtnldlbglgalbaabGreat
