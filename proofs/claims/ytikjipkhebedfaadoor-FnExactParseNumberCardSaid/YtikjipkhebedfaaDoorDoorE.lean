/-
  The listed tables and errors: a start that meets the condition, and what it gives the walks.
-/
import Derived.Test.YtikjipkhebedfaaDoorDoor
import Derived.Test.YtikjipkhebedfaaDoorParL
namespace Go.Proofs.YtikjipkhebedfaaDoor
open Go.ChangeShapes Go.WideShapes Go.ChangeAt Go.RowKit

/-- The three tables of numbers and the two errors. -/
def laid5 : List (String × DataW Unit) := Rows.fnExactParseNumberRow.laid
theorem err_cells : Tryd.prog.cellsOf 171 = 1 := by kernel_rfl
theorem str_cells : Tryd.prog.cellsOf 9 = 1 := by kernel_rfl
theorem syn_type : (Tryd.prog.globals[0]?).map (·.type) = some 72 := by kernel_rfl
theorem rng_type : (Tryd.prog.globals[1]?).map (·.type) = some 72 := by kernel_rfl
theorem err_star : "*" ++ "errors.errorString" = "*errors.errorString" := by decide
theorem err_row (u : TypeId) (h : Tryd.prog.typeName? 3 u = some "*errors.errorString") : u = 169 :=
  typeName_ptr_named (nm := "errors.errorString") (by rw [err_star]; kernel_rfl) (by kernel_rfl) (by decide) u (by rw [err_star]; exact h)
set_option maxRecDepth 100000 in
theorem tabs_of_laid5 {W : World} (h : laidMetH Tryd.prog laid5 W) : Tabs W := by
  have h2 : laidMet Tryd.prog laid5 W := by rw [← MakeChecks.laidMetH_plain Tryd.prog laid5 W (by kernel_rfl)]; exact h
  have h3 : laidMet Tryd.prog [("internal/strconv.uint64pow10", Lib.tabData .u64 Lib.pow10Tab), ("strconv.ErrRange", Rows.laid_strconv_ErrRange), ("strconv.ErrSyntax", Rows.laid_strconv_ErrSyntax)] W := by rw [← pow_data]; exact h2.tail.tail
  refine ⟨Lib.tabIs_of_head gPow pow_type Tryd.underlying164 Tryd.underlying148 u64_cells pow_cells h3, ?_, ?_⟩
  · obtain ⟨a0, s0, hv0, -, -, -⟩ := laid_sentinel h2.tail.tail.tail.tail gSyn syn_type Tryd.underlying72 err_row Tryd.underlying169 Tryd.underlying171 rfl rfl Tryd.underlying9 err_cells str_cells
    exact ⟨_, _, hv0⟩
  · obtain ⟨a0, s0, hv0, -, -, -⟩ := laid_sentinel h2.tail.tail.tail gRng rng_type Tryd.underlying72 err_row Tryd.underlying169 Tryd.underlying171 rfl rfl Tryd.underlying9 err_cells str_cells
    exact ⟨_, _, hv0⟩
set_option maxRecDepth 100000 in
/-- The heap that the door's own run leaves meets the condition. -/
theorem door_met5 (os : Os) (args : Array Value) : laidMetH Tryd.prog laid5 ((World.doorLaid Tryd.prog 400 os).forCall (fun _ _ => 0) ⟨#[], args, []⟩).memory :=
  laidMetH_of_parts3 (fuel := 8) (laidMet_of_run' 8 (by kernel_rfl) (by kernel_rfl)) (by kernel_rfl) (by kernel_rfl)
end Go.Proofs.YtikjipkhebedfaaDoor
