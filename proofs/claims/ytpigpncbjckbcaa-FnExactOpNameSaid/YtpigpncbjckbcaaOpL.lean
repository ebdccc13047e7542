/-
  The law on OpName, walked (written by gen/opn.py).
-/
import Derived.Test.YtpigpncbjckbcaaOpA
namespace Go.Proofs.Ytpigpncbjckbcaa
open Go.RowKit
set_option maxRecDepth 100000 in
theorem law_opn (p : Int) (w : World) : Calls Try.prog 3 #[.int .i64 p] w fun e w' => e = .returned (.bool true) ∧ Below w.heap.size w w' := by
  obtain ⟨X, hX⟩ : ∃ X, X = opNm p := ⟨_, rfl⟩
  have h1 := fun w => specOp_any p w
  have h2 := fun w => implOp_any p w
  rw [← hX] at h1 h2
  clear hX
  have nq : (X.toList == X.toList) = true := by simp
  go_enter Try.func3, Try.ntmps3
  go_wp2_with fail
  refine (h1 w).mono ?_
  rintro e w1 ⟨rfl, hb1⟩
  have z1 := hb1.size
  go_wp2_with fail
  refine (h2 w1).mono ?_
  rintro e w2 ⟨rfl, hb2⟩
  go_wp2_with fail
  go_ret
  exact ⟨rfl, hb1.trans (hb2.mono (by omega))⟩
end Go.Proofs.Ytpigpncbjckbcaa
