/-
  NARROWER THAN 'FOR EVERY INPUT', by the rows' own cells (each row's printed sentence says how): FnExactCandidates: loops · FnExactResolve: loops · FnExactSameMeaning: loops · FnExactIsEllipsis: loops · FnExactTemplateFits: loops · FnExactEqualRules: loops · FnExactEqualCaptures: loops · FnExactInstantiate: loops.
  DERIVED. THE GIVEN ROWS OF THIS SEAT. 10 by the template 'for every input the law returns true; each argument reads behind the call as it read before'; 0 by the template 'total and deterministic' (their statements: YtikjipkhebedfaaTotals.lean).
  GIVEN WITH THE SEED: the statements are not yours to turn. If you find one false, say at which input.
  Laid BY PROGRAM, IN A SANDBOX (cutbox-rows.mjs): the forced cells as the released guide's own fill.sh prints them over the translation d9d0fe9924bc0e7d… (all of the seat's roots in one cut). By AI agents, Wed Nov 11 2026. No macro, syntax, notation, axiom, sorry.
-/
import Derived.Test.YtikjipkhebedfaaChecked
import GoSem.Claim
import GoSem.ClaimJoined
import GoSem.ClaimMapViews
import Derived.JoinedTies
import Derived.KernelRfl
namespace Go.Proofs.Ytikjipkhebedfaa
/- THE CELL 'sum', in the pinned program and in every row, IS THE sha256 OF THE DUMP (.gsa) THAT YtikjipkhebedfaaProg.lean LOADS. Nothing in Lean hashes anything: it is a label: what it is worth is what the hold of that sum in a sandbox is worth. -/
noncomputable def Try.pinned : Pinned := { name := "ytikjipkhebedfaa", sum := "d9d0fe9924bc0e7dc649bf847af973e12dea9c3ca5b692e59f4896740addcb51", checked := Try.checked }
namespace Rows
def none {H : Type} : Left H := { results := [], args := [] }

/-- 'laws.FnSwapTwice': WHATEVER THE INPUT: true; the input reads as it did. -/
def fnSwapTwiceSpec : ChangeSpec := { name := "fnSwapTwice", fn := fun _ => fun
  | [d] => { results := [.lit (.bool true)], args := [d] }
  | _ => none }
def fnSwapTwiceRow : OpenClaim := { program := "ytikjipkhebedfaa", sum := "d9d0fe9924bc0e7dc649bf847af973e12dea9c3ca5b692e59f4896740addcb51", func := "loop.example/g03220/laws.FnSwapTwice", spec := "fnSwapTwice", inPlace := ["internal/bytealg.IndexByteString", "internal/bytealg.IndexString"], recurses := true, named := ["internal/bytealg.MaxLen"], apart := false }
def FnSwapTwiceSaid : Prop := fnSwapTwiceRow.holds Try.pinned (OpenSpec.ofChange fnSwapTwiceSpec)

/-- ITS FALSE NEIGHBOUR: 'it returns false'. Refute it at one input. -/
def fnSwapTwiceWrong : ChangeSpec := { name := "fnSwapTwice", fn := fun _ => fun
  | [d] => { results := [.lit (.bool false)], args := [d] }
  | _ => none }
def FnSwapTwiceWrongFalsely : Prop := fnSwapTwiceRow.holds Try.pinned (OpenSpec.ofChange fnSwapTwiceWrong)

/-- 'laws.FnExactAddBinding': WHATEVER THE INPUT: true; the input reads as it did. -/
def fnExactAddBindingSpec : ChangeSpec := { name := "fnExactAddBinding", fn := fun _ => fun
  | [d1, d2] => { results := [.lit (.bool true)], args := [d1, d2] }
  | _ => none }
def fnExactAddBindingRow : OpenClaim := { program := "ytikjipkhebedfaa", sum := "d9d0fe9924bc0e7dc649bf847af973e12dea9c3ca5b692e59f4896740addcb51", func := "loop.example/g03220/laws.FnExactAddBinding", spec := "fnExactAddBinding", inPlace := ["internal/bytealg.IndexByteString", "internal/bytealg.IndexString"], unfollowed := true, recurses := true, named := ["internal/bytealg.MaxLen"], apart := false }
def FnExactAddBindingSaid : Prop := fnExactAddBindingRow.holds Try.pinned (OpenSpec.ofChange fnExactAddBindingSpec)

/-- ITS FALSE NEIGHBOUR: 'it returns false'. Refute it at one input. -/
def fnExactAddBindingWrong : ChangeSpec := { name := "fnExactAddBinding", fn := fun _ => fun
  | [d1, d2] => { results := [.lit (.bool false)], args := [d1, d2] }
  | _ => none }
def FnExactAddBindingWrongFalsely : Prop := fnExactAddBindingRow.holds Try.pinned (OpenSpec.ofChange fnExactAddBindingWrong)

/-- 'laws.FnExactCandidates': WHATEVER THE INPUT: true; the input reads as it did. -/
def fnExactCandidatesSpec : ChangeSpec := { name := "fnExactCandidates", fn := fun _ => fun
  | [d1, d2] => { results := [.lit (.bool true)], args := [d1, d2] }
  | _ => none }
def fnExactCandidatesRow : OpenClaim := { program := "ytikjipkhebedfaa", sum := "d9d0fe9924bc0e7dc649bf847af973e12dea9c3ca5b692e59f4896740addcb51", func := "loop.example/g03220/laws.FnExactCandidates", spec := "fnExactCandidates", inPlace := ["internal/bytealg.IndexByteString", "internal/bytealg.IndexString"], unfollowed := true, recurses := true, named := ["internal/bytealg.MaxLen"], loops := true, apart := false }
def FnExactCandidatesSaid : Prop := fnExactCandidatesRow.holds Try.pinned (OpenSpec.ofChange fnExactCandidatesSpec)

/-- ITS FALSE NEIGHBOUR: 'it returns false'. Refute it at one input. -/
def fnExactCandidatesWrong : ChangeSpec := { name := "fnExactCandidates", fn := fun _ => fun
  | [d1, d2] => { results := [.lit (.bool false)], args := [d1, d2] }
  | _ => none }
def FnExactCandidatesWrongFalsely : Prop := fnExactCandidatesRow.holds Try.pinned (OpenSpec.ofChange fnExactCandidatesWrong)

/-- 'laws.FnExactResolve': WHATEVER THE INPUT: true; the input reads as it did. -/
def fnExactResolveSpec : ChangeSpec := { name := "fnExactResolve", fn := fun _ => fun
  | [d1, d2] => { results := [.lit (.bool true)], args := [d1, d2] }
  | _ => none }
def fnExactResolveRow : OpenClaim := { program := "ytikjipkhebedfaa", sum := "d9d0fe9924bc0e7dc649bf847af973e12dea9c3ca5b692e59f4896740addcb51", func := "loop.example/g03220/laws.FnExactResolve", spec := "fnExactResolve", inPlace := ["internal/bytealg.IndexByteString", "internal/bytealg.IndexString"], unfollowed := true, recurses := true, named := ["internal/bytealg.MaxLen"], loops := true, apart := false }
def FnExactResolveSaid : Prop := fnExactResolveRow.holds Try.pinned (OpenSpec.ofChange fnExactResolveSpec)

/-- ITS FALSE NEIGHBOUR: 'it returns false'. Refute it at one input. -/
def fnExactResolveWrong : ChangeSpec := { name := "fnExactResolve", fn := fun _ => fun
  | [d1, d2] => { results := [.lit (.bool false)], args := [d1, d2] }
  | _ => none }
def FnExactResolveWrongFalsely : Prop := fnExactResolveRow.holds Try.pinned (OpenSpec.ofChange fnExactResolveWrong)

/-- 'laws.FnExactSameMeaning': WHATEVER THE INPUT: true; the input reads as it did. -/
def fnExactSameMeaningSpec : ChangeSpec := { name := "fnExactSameMeaning", fn := fun _ => fun
  | [d1, d2, d3] => { results := [.lit (.bool true)], args := [d1, d2, d3] }
  | _ => none }
def fnExactSameMeaningRow : OpenClaim := { program := "ytikjipkhebedfaa", sum := "d9d0fe9924bc0e7dc649bf847af973e12dea9c3ca5b692e59f4896740addcb51", func := "loop.example/g03220/laws.FnExactSameMeaning", spec := "fnExactSameMeaning", inPlace := ["internal/bytealg.IndexByteString", "internal/bytealg.IndexString"], unfollowed := true, recurses := true, named := ["internal/bytealg.MaxLen"], loops := true, apart := false }
def FnExactSameMeaningSaid : Prop := fnExactSameMeaningRow.holds Try.pinned (OpenSpec.ofChange fnExactSameMeaningSpec)

/-- ITS FALSE NEIGHBOUR: 'it returns false'. Refute it at one input. -/
def fnExactSameMeaningWrong : ChangeSpec := { name := "fnExactSameMeaning", fn := fun _ => fun
  | [d1, d2, d3] => { results := [.lit (.bool false)], args := [d1, d2, d3] }
  | _ => none }
def FnExactSameMeaningWrongFalsely : Prop := fnExactSameMeaningRow.holds Try.pinned (OpenSpec.ofChange fnExactSameMeaningWrong)

/-- 'laws.FnExactIsEllipsis': WHATEVER THE INPUT: true; the input reads as it did. -/
def fnExactIsEllipsisSpec : ChangeSpec := { name := "fnExactIsEllipsis", fn := fun _ => fun
  | [d] => { results := [.lit (.bool true)], args := [d] }
  | _ => none }
def fnExactIsEllipsisRow : OpenClaim := { program := "ytikjipkhebedfaa", sum := "d9d0fe9924bc0e7dc649bf847af973e12dea9c3ca5b692e59f4896740addcb51", func := "loop.example/g03220/laws.FnExactIsEllipsis", spec := "fnExactIsEllipsis", inPlace := ["internal/bytealg.IndexByteString", "internal/bytealg.IndexString"], recurses := true, named := ["internal/bytealg.MaxLen"], loops := true, apart := false }
def FnExactIsEllipsisSaid : Prop := fnExactIsEllipsisRow.holds Try.pinned (OpenSpec.ofChange fnExactIsEllipsisSpec)

/-- ITS FALSE NEIGHBOUR: 'it returns false'. Refute it at one input. -/
def fnExactIsEllipsisWrong : ChangeSpec := { name := "fnExactIsEllipsis", fn := fun _ => fun
  | [d] => { results := [.lit (.bool false)], args := [d] }
  | _ => none }
def FnExactIsEllipsisWrongFalsely : Prop := fnExactIsEllipsisRow.holds Try.pinned (OpenSpec.ofChange fnExactIsEllipsisWrong)

/-- 'laws.FnExactTemplateFits': WHATEVER THE INPUT: true; the input reads as it did. -/
def fnExactTemplateFitsSpec : ChangeSpec := { name := "fnExactTemplateFits", fn := fun _ => fun
  | [d1, d2] => { results := [.lit (.bool true)], args := [d1, d2] }
  | _ => none }
def fnExactTemplateFitsRow : OpenClaim := { program := "ytikjipkhebedfaa", sum := "d9d0fe9924bc0e7dc649bf847af973e12dea9c3ca5b692e59f4896740addcb51", func := "loop.example/g03220/laws.FnExactTemplateFits", spec := "fnExactTemplateFits", inPlace := ["internal/bytealg.IndexByteString", "internal/bytealg.IndexString"], unfollowed := true, recurses := true, named := ["internal/bytealg.MaxLen"], loops := true, apart := false }
def FnExactTemplateFitsSaid : Prop := fnExactTemplateFitsRow.holds Try.pinned (OpenSpec.ofChange fnExactTemplateFitsSpec)

/-- ITS FALSE NEIGHBOUR: 'it returns false'. Refute it at one input. -/
def fnExactTemplateFitsWrong : ChangeSpec := { name := "fnExactTemplateFits", fn := fun _ => fun
  | [d1, d2] => { results := [.lit (.bool false)], args := [d1, d2] }
  | _ => none }
def FnExactTemplateFitsWrongFalsely : Prop := fnExactTemplateFitsRow.holds Try.pinned (OpenSpec.ofChange fnExactTemplateFitsWrong)

/-- 'laws.FnExactEqualRules': WHATEVER THE INPUT: true; the input reads as it did. -/
def fnExactEqualRulesSpec : ChangeSpec := { name := "fnExactEqualRules", fn := fun _ => fun
  | [d1, d2] => { results := [.lit (.bool true)], args := [d1, d2] }
  | _ => none }
def fnExactEqualRulesRow : OpenClaim := { program := "ytikjipkhebedfaa", sum := "d9d0fe9924bc0e7dc649bf847af973e12dea9c3ca5b692e59f4896740addcb51", func := "loop.example/g03220/laws.FnExactEqualRules", spec := "fnExactEqualRules", unfollowed := true, recurses := true, loops := true, apart := false }
def FnExactEqualRulesSaid : Prop := fnExactEqualRulesRow.holds Try.pinned (OpenSpec.ofChange fnExactEqualRulesSpec)

/-- ITS FALSE NEIGHBOUR: 'it returns false'. Refute it at one input. -/
def fnExactEqualRulesWrong : ChangeSpec := { name := "fnExactEqualRules", fn := fun _ => fun
  | [d1, d2] => { results := [.lit (.bool false)], args := [d1, d2] }
  | _ => none }
def FnExactEqualRulesWrongFalsely : Prop := fnExactEqualRulesRow.holds Try.pinned (OpenSpec.ofChange fnExactEqualRulesWrong)

/-- 'laws.FnExactEqualCaptures': WHATEVER THE INPUT: true; the input reads as it did. -/
def fnExactEqualCapturesSpec : ChangeSpec := { name := "fnExactEqualCaptures", fn := fun _ => fun
  | [d1, d2] => { results := [.lit (.bool true)], args := [d1, d2] }
  | _ => none }
def fnExactEqualCapturesRow : OpenClaim := { program := "ytikjipkhebedfaa", sum := "d9d0fe9924bc0e7dc649bf847af973e12dea9c3ca5b692e59f4896740addcb51", func := "loop.example/g03220/laws.FnExactEqualCaptures", spec := "fnExactEqualCaptures", unfollowed := true, recurses := true, loops := true, apart := false }
def FnExactEqualCapturesSaid : Prop := fnExactEqualCapturesRow.holds Try.pinned (OpenSpec.ofChange fnExactEqualCapturesSpec)

/-- ITS FALSE NEIGHBOUR: 'it returns false'. Refute it at one input. -/
def fnExactEqualCapturesWrong : ChangeSpec := { name := "fnExactEqualCaptures", fn := fun _ => fun
  | [d1, d2] => { results := [.lit (.bool false)], args := [d1, d2] }
  | _ => none }
def FnExactEqualCapturesWrongFalsely : Prop := fnExactEqualCapturesRow.holds Try.pinned (OpenSpec.ofChange fnExactEqualCapturesWrong)

/-- 'laws.FnExactInstantiate': WHATEVER THE INPUT: true; the input reads as it did. -/
def fnExactInstantiateSpec : ChangeSpec := { name := "fnExactInstantiate", fn := fun _ => fun
  | [d1, d2] => { results := [.lit (.bool true)], args := [d1, d2] }
  | _ => none }
def fnExactInstantiateRow : OpenClaim := { program := "ytikjipkhebedfaa", sum := "d9d0fe9924bc0e7dc649bf847af973e12dea9c3ca5b692e59f4896740addcb51", func := "loop.example/g03220/laws.FnExactInstantiate", spec := "fnExactInstantiate", inPlace := ["internal/bytealg.IndexByteString", "internal/bytealg.IndexString"], unfollowed := true, recurses := true, named := ["internal/bytealg.MaxLen"], loops := true, apart := false }
def FnExactInstantiateSaid : Prop := fnExactInstantiateRow.holds Try.pinned (OpenSpec.ofChange fnExactInstantiateSpec)

/-- ITS FALSE NEIGHBOUR: 'it returns false'. Refute it at one input. -/
def fnExactInstantiateWrong : ChangeSpec := { name := "fnExactInstantiate", fn := fun _ => fun
  | [d1, d2] => { results := [.lit (.bool false)], args := [d1, d2] }
  | _ => none }
def FnExactInstantiateWrongFalsely : Prop := fnExactInstantiateRow.holds Try.pinned (OpenSpec.ofChange fnExactInstantiateWrong)

/- THE SECOND FORM. 'bulk': how many values and letters a reading holds, each counted each time it is reached (what is shared counts as often as it is met; a slice's spare places count too). A statement '..UptoSaid' is the law's where the arguments, and the package variables that the reading takes, are together of bulk at most 1048576: NARROWER than '..Said'. Prove '..Said' where nothing that the law and all that it calls make is longer than what came in: it says more and counts as full. Else prove '..UptoSaid'. A law counts once. -/
mutual
def uptoBulk {H : Type} : DataW H → Nat
  | .lit (.string bytes) => bytes.length + 1
  | .lit _ => 1
  | .nil => 1
  | .ptr d => uptoBulk d + 1
  | .slice elems spare => uptoBulkAll elems + uptoBulkAll spare + 1
  | .agg parts => uptoBulkAll parts + 1
  | .iface _ d => uptoBulk d + 1
  | .map entries => uptoBulkEntries entries + 1
  | .held _ => 1
def uptoBulkAll {H : Type} : List (DataW H) → Nat
  | [] => 0
  | d :: r => uptoBulk d + uptoBulkAll r
def uptoBulkEntries {H : Type} : List (Lit × DataW H) → Nat
  | [] => 0
  | x :: r => uptoBulkEntry x + uptoBulkEntries r
def uptoBulkEntry {H : Type} : Lit × DataW H → Nat
  | (.string bytes, d) => bytes.length + uptoBulk d + 1
  | (_, d) => uptoBulk d + 1
 end
def uptoSmall : (H : Type) → List (DataW H) → Bool := fun _ ds => decide (uptoBulkAll ds ≤ 1048576)
def OpenSpec.upto (s : _root_.Go.ChangeSpec) : _root_.Go.OpenSpec := { _root_.Go.OpenSpec.ofChange s with cond := some uptoSmall }

/-- 'laws.FnSwapTwice', WHERE WHAT IT READS IS OF BULK AT MOST 1048576: true; the input reads as it did. -/
def fnSwapTwiceUptoRow : OpenClaim := { program := "ytikjipkhebedfaa", sum := "d9d0fe9924bc0e7dc649bf847af973e12dea9c3ca5b692e59f4896740addcb51", func := "loop.example/g03220/laws.FnSwapTwice", spec := "fnSwapTwice", inPlace := ["internal/bytealg.IndexByteString", "internal/bytealg.IndexString"], recurses := true, named := ["internal/bytealg.MaxLen"], apart := false, narrowed := true }
def FnSwapTwiceUptoSaid : Prop := fnSwapTwiceUptoRow.holds Try.pinned (OpenSpec.upto fnSwapTwiceSpec)

/-- 'laws.FnExactAddBinding', WHERE WHAT IT READS IS OF BULK AT MOST 1048576: true; the input reads as it did. -/
def fnExactAddBindingUptoRow : OpenClaim := { program := "ytikjipkhebedfaa", sum := "d9d0fe9924bc0e7dc649bf847af973e12dea9c3ca5b692e59f4896740addcb51", func := "loop.example/g03220/laws.FnExactAddBinding", spec := "fnExactAddBinding", inPlace := ["internal/bytealg.IndexByteString", "internal/bytealg.IndexString"], unfollowed := true, recurses := true, named := ["internal/bytealg.MaxLen"], apart := false, narrowed := true }
def FnExactAddBindingUptoSaid : Prop := fnExactAddBindingUptoRow.holds Try.pinned (OpenSpec.upto fnExactAddBindingSpec)

/-- 'laws.FnExactCandidates', WHERE WHAT IT READS IS OF BULK AT MOST 1048576: true; the input reads as it did. -/
def fnExactCandidatesUptoRow : OpenClaim := { program := "ytikjipkhebedfaa", sum := "d9d0fe9924bc0e7dc649bf847af973e12dea9c3ca5b692e59f4896740addcb51", func := "loop.example/g03220/laws.FnExactCandidates", spec := "fnExactCandidates", inPlace := ["internal/bytealg.IndexByteString", "internal/bytealg.IndexString"], unfollowed := true, recurses := true, named := ["internal/bytealg.MaxLen"], loops := true, apart := false, narrowed := true }
def FnExactCandidatesUptoSaid : Prop := fnExactCandidatesUptoRow.holds Try.pinned (OpenSpec.upto fnExactCandidatesSpec)

/-- 'laws.FnExactResolve', WHERE WHAT IT READS IS OF BULK AT MOST 1048576: true; the input reads as it did. -/
def fnExactResolveUptoRow : OpenClaim := { program := "ytikjipkhebedfaa", sum := "d9d0fe9924bc0e7dc649bf847af973e12dea9c3ca5b692e59f4896740addcb51", func := "loop.example/g03220/laws.FnExactResolve", spec := "fnExactResolve", inPlace := ["internal/bytealg.IndexByteString", "internal/bytealg.IndexString"], unfollowed := true, recurses := true, named := ["internal/bytealg.MaxLen"], loops := true, apart := false, narrowed := true }
def FnExactResolveUptoSaid : Prop := fnExactResolveUptoRow.holds Try.pinned (OpenSpec.upto fnExactResolveSpec)

/-- 'laws.FnExactSameMeaning', WHERE WHAT IT READS IS OF BULK AT MOST 1048576: true; the input reads as it did. -/
def fnExactSameMeaningUptoRow : OpenClaim := { program := "ytikjipkhebedfaa", sum := "d9d0fe9924bc0e7dc649bf847af973e12dea9c3ca5b692e59f4896740addcb51", func := "loop.example/g03220/laws.FnExactSameMeaning", spec := "fnExactSameMeaning", inPlace := ["internal/bytealg.IndexByteString", "internal/bytealg.IndexString"], unfollowed := true, recurses := true, named := ["internal/bytealg.MaxLen"], loops := true, apart := false, narrowed := true }
def FnExactSameMeaningUptoSaid : Prop := fnExactSameMeaningUptoRow.holds Try.pinned (OpenSpec.upto fnExactSameMeaningSpec)

/-- 'laws.FnExactIsEllipsis', WHERE WHAT IT READS IS OF BULK AT MOST 1048576: true; the input reads as it did. -/
def fnExactIsEllipsisUptoRow : OpenClaim := { program := "ytikjipkhebedfaa", sum := "d9d0fe9924bc0e7dc649bf847af973e12dea9c3ca5b692e59f4896740addcb51", func := "loop.example/g03220/laws.FnExactIsEllipsis", spec := "fnExactIsEllipsis", inPlace := ["internal/bytealg.IndexByteString", "internal/bytealg.IndexString"], recurses := true, named := ["internal/bytealg.MaxLen"], loops := true, apart := false, narrowed := true }
def FnExactIsEllipsisUptoSaid : Prop := fnExactIsEllipsisUptoRow.holds Try.pinned (OpenSpec.upto fnExactIsEllipsisSpec)

/-- 'laws.FnExactTemplateFits', WHERE WHAT IT READS IS OF BULK AT MOST 1048576: true; the input reads as it did. -/
def fnExactTemplateFitsUptoRow : OpenClaim := { program := "ytikjipkhebedfaa", sum := "d9d0fe9924bc0e7dc649bf847af973e12dea9c3ca5b692e59f4896740addcb51", func := "loop.example/g03220/laws.FnExactTemplateFits", spec := "fnExactTemplateFits", inPlace := ["internal/bytealg.IndexByteString", "internal/bytealg.IndexString"], unfollowed := true, recurses := true, named := ["internal/bytealg.MaxLen"], loops := true, apart := false, narrowed := true }
def FnExactTemplateFitsUptoSaid : Prop := fnExactTemplateFitsUptoRow.holds Try.pinned (OpenSpec.upto fnExactTemplateFitsSpec)

/-- 'laws.FnExactEqualRules', WHERE WHAT IT READS IS OF BULK AT MOST 1048576: true; the input reads as it did. -/
def fnExactEqualRulesUptoRow : OpenClaim := { program := "ytikjipkhebedfaa", sum := "d9d0fe9924bc0e7dc649bf847af973e12dea9c3ca5b692e59f4896740addcb51", func := "loop.example/g03220/laws.FnExactEqualRules", spec := "fnExactEqualRules", unfollowed := true, recurses := true, loops := true, apart := false, narrowed := true }
def FnExactEqualRulesUptoSaid : Prop := fnExactEqualRulesUptoRow.holds Try.pinned (OpenSpec.upto fnExactEqualRulesSpec)

/-- 'laws.FnExactEqualCaptures', WHERE WHAT IT READS IS OF BULK AT MOST 1048576: true; the input reads as it did. -/
def fnExactEqualCapturesUptoRow : OpenClaim := { program := "ytikjipkhebedfaa", sum := "d9d0fe9924bc0e7dc649bf847af973e12dea9c3ca5b692e59f4896740addcb51", func := "loop.example/g03220/laws.FnExactEqualCaptures", spec := "fnExactEqualCaptures", unfollowed := true, recurses := true, loops := true, apart := false, narrowed := true }
def FnExactEqualCapturesUptoSaid : Prop := fnExactEqualCapturesUptoRow.holds Try.pinned (OpenSpec.upto fnExactEqualCapturesSpec)

/-- 'laws.FnExactInstantiate', WHERE WHAT IT READS IS OF BULK AT MOST 1048576: true; the input reads as it did. -/
def fnExactInstantiateUptoRow : OpenClaim := { program := "ytikjipkhebedfaa", sum := "d9d0fe9924bc0e7dc649bf847af973e12dea9c3ca5b692e59f4896740addcb51", func := "loop.example/g03220/laws.FnExactInstantiate", spec := "fnExactInstantiate", inPlace := ["internal/bytealg.IndexByteString", "internal/bytealg.IndexString"], unfollowed := true, recurses := true, named := ["internal/bytealg.MaxLen"], loops := true, apart := false, narrowed := true }
def FnExactInstantiateUptoSaid : Prop := fnExactInstantiateUptoRow.holds Try.pinned (OpenSpec.upto fnExactInstantiateSpec)

end Rows
end Go.Proofs.Ytikjipkhebedfaa
