/-
  Data without items: the program's and the model's.
-/
import Derived.Test.YtpigpncbjckbcaaGreatIsD
namespace Go.Proofs.YtpigpncbjckbcaaGreat
open Go.RowKit
def zeroD : D := .mk 0 0 ⟨#[]⟩ none 0 []
end Go.Proofs.YtpigpncbjckbcaaGreat
