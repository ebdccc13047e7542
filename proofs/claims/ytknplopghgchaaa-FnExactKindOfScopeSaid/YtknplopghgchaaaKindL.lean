/-
  The law on KindOfScope, walked.
-/
import Derived.Test.YtknplopghgchaaaScope
namespace Go.Proofs.Ytknplopghgchaaa
open Go.RowKit

set_option maxHeartbeats 400000 in
theorem law_kind (a0 : Int) (w : World) : Calls Try.prog 7 #[.int .i64 a0] w fun e w' => e = .returned (.bool true) ∧ Below w.heap.size w w' := by
  go_enter Try.func7, Try.ntmps7
  go_wp2_with fail
  refine (specKind_any a0 _).mono ?_
  rintro e w1 ⟨rfl, hb1⟩
  go_wp2_with fail
  refine (implKind_any a0 _).mono ?_
  rintro e w2 ⟨rfl, hw⟩
  obtain rfl := hw.symm
  go_wp2_with fail
  go_ret
  exact ⟨rfl, hb1⟩
end Go.Proofs.Ytknplopghgchaaa
