/-
  Value: the laws' own size (written by gen/rec.py).
-/
import Derived.Test.YtnldlbglgalbaabVuB
import Derived.Test.YtnldlbglgalbaabSTrees
namespace Go.Proofs.Ytnldlbglgalbaab
open Go.RowKit

set_option maxRecDepth 100000 in
set_option maxHeartbeats 4000000 in
theorem Vu_sz_any (d : Vu) (B : Nat) (w : World) (left : Int) (h0 : 0 ≤ left) (h1 : left ≤ 1048576) (hin : Vu.E.In w B d) (hB : B ≤ w.heap.size) :
    Calls Try.prog 13 #[Vu.val d, .int .i64 left] w fun e w' => e = .returned (.int .i64 (szR (d.bulk) left)) ∧ Below w.heap.size w w' := by
  have h_d := Elem.In.more hin hB
  have hbu : ((d.bulk : Nat) : Int) = (d.t.size : Int) := by unfold Vu.bulk; omega
  have hin_t := (Vu.E_in hin).t
  unfold Vu.val
  by_cases hz0 : (d.t.size : Int) ≤ left
  · skip
    have HR : Hid (szR (d.bulk) left = left - (d.t.size : Int)) := by show _ = _; rw [szR_yes (by omega)]; omega
    clear hbu
    have b0 : Below w.heap.size w w := Below.refl _ _
    have i_d := h_d
    go_enter Try.func13, Try.ntmps13
    have n0 : ¬ (left - (d.t.size : Int) < 0) := by omega
    go_wp2_with fail
    go_ret
    exact ⟨ret_int HR.out.symm, (Below.refl _ _).alloc (Nat.le_refl _) _⟩
  · skip
    have HR : Hid (szR (d.bulk) left = -1) := szR_no (by omega)
    clear hbu
    have b0 : Below w.heap.size w w := Below.refl _ _
    have i_d := h_d
    go_enter Try.func13, Try.ntmps13
    have n0 : left - (d.t.size : Int) < 0 := by omega
    go_wp2_with fail
    go_ret
    exact ⟨ret_int HR.out.symm, (Below.refl _ _).alloc (Nat.le_refl _) _⟩
end Go.Proofs.Ytnldlbglgalbaab
