/-
  The listed tables: a start that meets the condition, and what the condition gives the walks.
-/
import Derived.Test.YtpigpncbjckbcaaDoorFmtL
import Derived.Test.YtpigpncbjckbcaaDoorPosts
import Derived.Test.YtpigpncbjckbcaaDoorRows
import Derived.LaidMore
import Derived.MakeChecks
import Derived.Lib.LaidTab
import Derived.LaidHandle
import Derived.Stop.LaidErr
namespace Go.Proofs.YtpigpncbjckbcaaDoor
open Go.ChangeShapes Go.WideShapes Go.ChangeAt Go.RowKit

/-- The three tables of numbers. -/
def laid3 : List (String × DataW Unit) := Rows.fnExactFormatInstrRow.laid
theorem pow_data : (Rows.laid_internal_strconv_uint64pow10 : DataW Unit) = Lib.tabData .u64 Lib.pow10Tab := by kernel_rfl
theorem pow_type : (Tryd.prog.globals[1]?).map (·.type) = some 88 := by kernel_rfl
theorem pow_cells : Tryd.prog.cellsOf 88 = 20 := by kernel_rfl
theorem u64_cells : Tryd.prog.cellsOf 79 = 1 := by kernel_rfl
set_option maxRecDepth 100000 in
theorem tab_of_laid3 {W : World} (h : laidMetH Tryd.prog laid3 W) : Tab W := by
  have h2 : laidMet Tryd.prog laid3 W := by rw [← MakeChecks.laidMetH_plain Tryd.prog laid3 W (by kernel_rfl)]; exact h
  have h3 : laidMet Tryd.prog [("internal/strconv.uint64pow10", Lib.tabData .u64 Lib.pow10Tab)] W := by rw [← pow_data]; exact h2.tail.tail
  exact Lib.tabIs_of_head gPow pow_type Tryd.underlying88 Tryd.underlying79 u64_cells pow_cells h3
set_option maxRecDepth 100000 in
/-- The heap that the door's own run leaves meets the condition. -/
theorem door_met3 (os : Os) (args : Array Value) : laidMetH Tryd.prog laid3 ((World.doorLaid Tryd.prog 400 os).forCall (fun _ _ => 0) ⟨#[], args, []⟩).memory :=
  laidMetH_of_parts3 (fuel := 8) (laidMet_of_run' 8 (by kernel_rfl) (by kernel_rfl)) (by kernel_rfl) (by kernel_rfl)
theorem wf_lo {n : Int} (h : (Lit.int .i64 n).wf = true) : -9223372036854775808 ≤ n := by
  simp only [Lit.wf, Bool.and_eq_true, decide_eq_true_eq] at h
  exact h.1
theorem wf_hi {n : Int} (h : (Lit.int .i64 n).wf = true) : n ≤ 9223372036854775807 := by
  simp only [Lit.wf, Bool.and_eq_true, decide_eq_true_eq] at h
  exact h.2
end Go.Proofs.YtpigpncbjckbcaaDoor
