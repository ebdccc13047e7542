/-
  The law on CoreBindings, walked.
-/
import Derived.Test.YtfbfmajjooannaaCoreB
namespace Go.Proofs.Ytfbfmajjooannaa
open Go.RowKit

theorem core_bulk : Bd.bulkL coreL ≤ 1000 := by decide
end Go.Proofs.Ytfbfmajjooannaa
