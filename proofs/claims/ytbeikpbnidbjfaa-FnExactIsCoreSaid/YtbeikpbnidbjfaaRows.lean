/-
  NARROWER THAN 'FOR EVERY INPUT', by the rows' own cells (each row's printed sentence says how): FnExactSizeOfCore: loops · FnExactDepthOfCore: loops · FnExactEqualCores: loops · FnExactFreeVariables: loops · FnExactBoundVariables: loops · FnExactBoxedVariables: loops · FnExactIsCore: loops · FnExactAlphaEqual: loops · FnExactTemplateFits: loops · FnExactInstantiate: loops.
  DERIVED. THE GIVEN ROWS OF THIS SEAT. 11 by the template 'for every input the law returns true; each argument reads behind the call as it read before'; 0 by the template 'total and deterministic' (their statements: YtbeikpbnidbjfaaTotals.lean).
  GIVEN WITH THE SEED: the statements are not yours to turn. If you find one false, say at which input.
  Laid BY PROGRAM, IN A SANDBOX (cutbox-rows.mjs): the forced cells as the released guide's own fill.sh prints them over the translation 43bbbe26e46b1073… (all of the seat's roots in one cut). By AI agents, Wed Nov 11 2026. No macro, syntax, notation, axiom, sorry.
-/
import Derived.Test.YtbeikpbnidbjfaaChecked
import GoSem.Claim
import GoSem.ClaimJoined
import GoSem.ClaimMapViews
import Derived.JoinedTies
import Derived.KernelRfl
namespace Go.Proofs.Ytbeikpbnidbjfaa
/- THE CELL 'sum', in the pinned program and in every row, IS THE sha256 OF THE DUMP (.gsa) THAT YtbeikpbnidbjfaaProg.lean LOADS. Nothing in Lean hashes anything: it is a label: what it is worth is what the hold of that sum in a sandbox is worth. -/
noncomputable def Try.pinned : Pinned := { name := "ytbeikpbnidbjfaa", sum := "43bbbe26e46b10731830e0bc8566a4ce385f6a9ba6a880684f31343322b96599", checked := Try.checked }
namespace Rows
def none {H : Type} : Left H := { results := [], args := [] }

/-- 'laws.FnExactSizeOfCore': WHATEVER THE INPUT: true; the input reads as it did. -/
def fnExactSizeOfCoreSpec : ChangeSpec := { name := "fnExactSizeOfCore", fn := fun _ => fun
  | [d] => { results := [.lit (.bool true)], args := [d] }
  | _ => none }
def fnExactSizeOfCoreRow : OpenClaim := { program := "ytbeikpbnidbjfaa", sum := "43bbbe26e46b10731830e0bc8566a4ce385f6a9ba6a880684f31343322b96599", func := "loop.example/g03220/laws.FnExactSizeOfCore", spec := "fnExactSizeOfCore", recurses := true, loops := true, apart := false }
def FnExactSizeOfCoreSaid : Prop := fnExactSizeOfCoreRow.holds Try.pinned (OpenSpec.ofChange fnExactSizeOfCoreSpec)

/-- ITS FALSE NEIGHBOUR: 'it returns false'. Refute it at one input. -/
def fnExactSizeOfCoreWrong : ChangeSpec := { name := "fnExactSizeOfCore", fn := fun _ => fun
  | [d] => { results := [.lit (.bool false)], args := [d] }
  | _ => none }
def FnExactSizeOfCoreWrongFalsely : Prop := fnExactSizeOfCoreRow.holds Try.pinned (OpenSpec.ofChange fnExactSizeOfCoreWrong)

/-- 'laws.FnExactDepthOfCore': WHATEVER THE INPUT: true; the input reads as it did. -/
def fnExactDepthOfCoreSpec : ChangeSpec := { name := "fnExactDepthOfCore", fn := fun _ => fun
  | [d] => { results := [.lit (.bool true)], args := [d] }
  | _ => none }
def fnExactDepthOfCoreRow : OpenClaim := { program := "ytbeikpbnidbjfaa", sum := "43bbbe26e46b10731830e0bc8566a4ce385f6a9ba6a880684f31343322b96599", func := "loop.example/g03220/laws.FnExactDepthOfCore", spec := "fnExactDepthOfCore", recurses := true, loops := true, apart := false }
def FnExactDepthOfCoreSaid : Prop := fnExactDepthOfCoreRow.holds Try.pinned (OpenSpec.ofChange fnExactDepthOfCoreSpec)

/-- ITS FALSE NEIGHBOUR: 'it returns false'. Refute it at one input. -/
def fnExactDepthOfCoreWrong : ChangeSpec := { name := "fnExactDepthOfCore", fn := fun _ => fun
  | [d] => { results := [.lit (.bool false)], args := [d] }
  | _ => none }
def FnExactDepthOfCoreWrongFalsely : Prop := fnExactDepthOfCoreRow.holds Try.pinned (OpenSpec.ofChange fnExactDepthOfCoreWrong)

/-- 'laws.FnExactEqualCores': WHATEVER THE INPUT: true; the input reads as it did. -/
def fnExactEqualCoresSpec : ChangeSpec := { name := "fnExactEqualCores", fn := fun _ => fun
  | [d1, d2] => { results := [.lit (.bool true)], args := [d1, d2] }
  | _ => none }
def fnExactEqualCoresRow : OpenClaim := { program := "ytbeikpbnidbjfaa", sum := "43bbbe26e46b10731830e0bc8566a4ce385f6a9ba6a880684f31343322b96599", func := "loop.example/g03220/laws.FnExactEqualCores", spec := "fnExactEqualCores", unfollowed := true, recurses := true, loops := true, apart := false }
def FnExactEqualCoresSaid : Prop := fnExactEqualCoresRow.holds Try.pinned (OpenSpec.ofChange fnExactEqualCoresSpec)

/-- ITS FALSE NEIGHBOUR: 'it returns false'. Refute it at one input. -/
def fnExactEqualCoresWrong : ChangeSpec := { name := "fnExactEqualCores", fn := fun _ => fun
  | [d1, d2] => { results := [.lit (.bool false)], args := [d1, d2] }
  | _ => none }
def FnExactEqualCoresWrongFalsely : Prop := fnExactEqualCoresRow.holds Try.pinned (OpenSpec.ofChange fnExactEqualCoresWrong)

/-- 'laws.FnExactFreeVariables': WHATEVER THE INPUT: true; the input reads as it did. -/
def fnExactFreeVariablesSpec : ChangeSpec := { name := "fnExactFreeVariables", fn := fun _ => fun
  | [d] => { results := [.lit (.bool true)], args := [d] }
  | _ => none }
def fnExactFreeVariablesRow : OpenClaim := { program := "ytbeikpbnidbjfaa", sum := "43bbbe26e46b10731830e0bc8566a4ce385f6a9ba6a880684f31343322b96599", func := "loop.example/g03220/laws.FnExactFreeVariables", spec := "fnExactFreeVariables", unfollowed := true, recurses := true, loops := true, apart := false }
def FnExactFreeVariablesSaid : Prop := fnExactFreeVariablesRow.holds Try.pinned (OpenSpec.ofChange fnExactFreeVariablesSpec)

/-- ITS FALSE NEIGHBOUR: 'it returns false'. Refute it at one input. -/
def fnExactFreeVariablesWrong : ChangeSpec := { name := "fnExactFreeVariables", fn := fun _ => fun
  | [d] => { results := [.lit (.bool false)], args := [d] }
  | _ => none }
def FnExactFreeVariablesWrongFalsely : Prop := fnExactFreeVariablesRow.holds Try.pinned (OpenSpec.ofChange fnExactFreeVariablesWrong)

/-- 'laws.FnExactBoundVariables': WHATEVER THE INPUT: true; the input reads as it did. -/
def fnExactBoundVariablesSpec : ChangeSpec := { name := "fnExactBoundVariables", fn := fun _ => fun
  | [d] => { results := [.lit (.bool true)], args := [d] }
  | _ => none }
def fnExactBoundVariablesRow : OpenClaim := { program := "ytbeikpbnidbjfaa", sum := "43bbbe26e46b10731830e0bc8566a4ce385f6a9ba6a880684f31343322b96599", func := "loop.example/g03220/laws.FnExactBoundVariables", spec := "fnExactBoundVariables", unfollowed := true, recurses := true, loops := true, apart := false }
def FnExactBoundVariablesSaid : Prop := fnExactBoundVariablesRow.holds Try.pinned (OpenSpec.ofChange fnExactBoundVariablesSpec)

/-- ITS FALSE NEIGHBOUR: 'it returns false'. Refute it at one input. -/
def fnExactBoundVariablesWrong : ChangeSpec := { name := "fnExactBoundVariables", fn := fun _ => fun
  | [d] => { results := [.lit (.bool false)], args := [d] }
  | _ => none }
def FnExactBoundVariablesWrongFalsely : Prop := fnExactBoundVariablesRow.holds Try.pinned (OpenSpec.ofChange fnExactBoundVariablesWrong)

/-- 'laws.FnExactBoxedVariables': WHATEVER THE INPUT: true; the input reads as it did. -/
def fnExactBoxedVariablesSpec : ChangeSpec := { name := "fnExactBoxedVariables", fn := fun _ => fun
  | [d] => { results := [.lit (.bool true)], args := [d] }
  | _ => none }
def fnExactBoxedVariablesRow : OpenClaim := { program := "ytbeikpbnidbjfaa", sum := "43bbbe26e46b10731830e0bc8566a4ce385f6a9ba6a880684f31343322b96599", func := "loop.example/g03220/laws.FnExactBoxedVariables", spec := "fnExactBoxedVariables", unfollowed := true, recurses := true, loops := true, apart := false }
def FnExactBoxedVariablesSaid : Prop := fnExactBoxedVariablesRow.holds Try.pinned (OpenSpec.ofChange fnExactBoxedVariablesSpec)

/-- ITS FALSE NEIGHBOUR: 'it returns false'. Refute it at one input. -/
def fnExactBoxedVariablesWrong : ChangeSpec := { name := "fnExactBoxedVariables", fn := fun _ => fun
  | [d] => { results := [.lit (.bool false)], args := [d] }
  | _ => none }
def FnExactBoxedVariablesWrongFalsely : Prop := fnExactBoxedVariablesRow.holds Try.pinned (OpenSpec.ofChange fnExactBoxedVariablesWrong)

/-- 'laws.FnExactIsCore': WHATEVER THE INPUT: true; the input reads as it did. -/
def fnExactIsCoreSpec : ChangeSpec := { name := "fnExactIsCore", fn := fun _ => fun
  | [d1, d2] => { results := [.lit (.bool true)], args := [d1, d2] }
  | _ => none }
def fnExactIsCoreRow : OpenClaim := { program := "ytbeikpbnidbjfaa", sum := "43bbbe26e46b10731830e0bc8566a4ce385f6a9ba6a880684f31343322b96599", func := "loop.example/g03220/laws.FnExactIsCore", spec := "fnExactIsCore", inPlace := ["internal/bytealg.IndexByteString", "internal/bytealg.IndexString"], unfollowed := true, recurses := true, named := ["internal/bytealg.MaxLen"], loops := true, apart := false }
def FnExactIsCoreSaid : Prop := fnExactIsCoreRow.holds Try.pinned (OpenSpec.ofChange fnExactIsCoreSpec)

/-- ITS FALSE NEIGHBOUR: 'it returns false'. Refute it at one input. -/
def fnExactIsCoreWrong : ChangeSpec := { name := "fnExactIsCore", fn := fun _ => fun
  | [d1, d2] => { results := [.lit (.bool false)], args := [d1, d2] }
  | _ => none }
def FnExactIsCoreWrongFalsely : Prop := fnExactIsCoreRow.holds Try.pinned (OpenSpec.ofChange fnExactIsCoreWrong)

/-- 'laws.FnExactAlphaEqual': WHATEVER THE INPUT: true; the input reads as it did. -/
def fnExactAlphaEqualSpec : ChangeSpec := { name := "fnExactAlphaEqual", fn := fun _ => fun
  | [d1, d2] => { results := [.lit (.bool true)], args := [d1, d2] }
  | _ => none }
def fnExactAlphaEqualRow : OpenClaim := { program := "ytbeikpbnidbjfaa", sum := "43bbbe26e46b10731830e0bc8566a4ce385f6a9ba6a880684f31343322b96599", func := "loop.example/g03220/laws.FnExactAlphaEqual", spec := "fnExactAlphaEqual", inPlace := ["internal/bytealg.IndexByteString", "internal/bytealg.IndexString"], unfollowed := true, recurses := true, named := ["internal/bytealg.MaxLen"], loops := true, apart := false }
def FnExactAlphaEqualSaid : Prop := fnExactAlphaEqualRow.holds Try.pinned (OpenSpec.ofChange fnExactAlphaEqualSpec)

/-- ITS FALSE NEIGHBOUR: 'it returns false'. Refute it at one input. -/
def fnExactAlphaEqualWrong : ChangeSpec := { name := "fnExactAlphaEqual", fn := fun _ => fun
  | [d1, d2] => { results := [.lit (.bool false)], args := [d1, d2] }
  | _ => none }
def FnExactAlphaEqualWrongFalsely : Prop := fnExactAlphaEqualRow.holds Try.pinned (OpenSpec.ofChange fnExactAlphaEqualWrong)

/-- 'laws.FnExactTemplateFits': WHATEVER THE INPUT: true; the input reads as it did. -/
def fnExactTemplateFitsSpec : ChangeSpec := { name := "fnExactTemplateFits", fn := fun _ => fun
  | [d1, d2] => { results := [.lit (.bool true)], args := [d1, d2] }
  | _ => none }
def fnExactTemplateFitsRow : OpenClaim := { program := "ytbeikpbnidbjfaa", sum := "43bbbe26e46b10731830e0bc8566a4ce385f6a9ba6a880684f31343322b96599", func := "loop.example/g03220/laws.FnExactTemplateFits", spec := "fnExactTemplateFits", inPlace := ["internal/bytealg.IndexByteString", "internal/bytealg.IndexString"], unfollowed := true, recurses := true, named := ["internal/bytealg.MaxLen"], loops := true, apart := false }
def FnExactTemplateFitsSaid : Prop := fnExactTemplateFitsRow.holds Try.pinned (OpenSpec.ofChange fnExactTemplateFitsSpec)

/-- ITS FALSE NEIGHBOUR: 'it returns false'. Refute it at one input. -/
def fnExactTemplateFitsWrong : ChangeSpec := { name := "fnExactTemplateFits", fn := fun _ => fun
  | [d1, d2] => { results := [.lit (.bool false)], args := [d1, d2] }
  | _ => none }
def FnExactTemplateFitsWrongFalsely : Prop := fnExactTemplateFitsRow.holds Try.pinned (OpenSpec.ofChange fnExactTemplateFitsWrong)

/-- 'laws.FnExactInstantiate': WHATEVER THE INPUT: true; the input reads as it did. -/
def fnExactInstantiateSpec : ChangeSpec := { name := "fnExactInstantiate", fn := fun _ => fun
  | [d1, d2] => { results := [.lit (.bool true)], args := [d1, d2] }
  | _ => none }
def fnExactInstantiateRow : OpenClaim := { program := "ytbeikpbnidbjfaa", sum := "43bbbe26e46b10731830e0bc8566a4ce385f6a9ba6a880684f31343322b96599", func := "loop.example/g03220/laws.FnExactInstantiate", spec := "fnExactInstantiate", inPlace := ["internal/bytealg.IndexByteString", "internal/bytealg.IndexString"], unfollowed := true, recurses := true, named := ["internal/bytealg.MaxLen"], loops := true, apart := false }
def FnExactInstantiateSaid : Prop := fnExactInstantiateRow.holds Try.pinned (OpenSpec.ofChange fnExactInstantiateSpec)

/-- ITS FALSE NEIGHBOUR: 'it returns false'. Refute it at one input. -/
def fnExactInstantiateWrong : ChangeSpec := { name := "fnExactInstantiate", fn := fun _ => fun
  | [d1, d2] => { results := [.lit (.bool false)], args := [d1, d2] }
  | _ => none }
def FnExactInstantiateWrongFalsely : Prop := fnExactInstantiateRow.holds Try.pinned (OpenSpec.ofChange fnExactInstantiateWrong)

/-- 'laws.FnSwapTwice': WHATEVER THE INPUT: true; the input reads as it did. -/
def fnSwapTwiceSpec : ChangeSpec := { name := "fnSwapTwice", fn := fun _ => fun
  | [d] => { results := [.lit (.bool true)], args := [d] }
  | _ => none }
def fnSwapTwiceRow : OpenClaim := { program := "ytbeikpbnidbjfaa", sum := "43bbbe26e46b10731830e0bc8566a4ce385f6a9ba6a880684f31343322b96599", func := "loop.example/g03220/laws.FnSwapTwice", spec := "fnSwapTwice", inPlace := ["internal/bytealg.IndexByteString", "internal/bytealg.IndexString"], recurses := true, named := ["internal/bytealg.MaxLen"], apart := false }
def FnSwapTwiceSaid : Prop := fnSwapTwiceRow.holds Try.pinned (OpenSpec.ofChange fnSwapTwiceSpec)

/-- ITS FALSE NEIGHBOUR: 'it returns false'. Refute it at one input. -/
def fnSwapTwiceWrong : ChangeSpec := { name := "fnSwapTwice", fn := fun _ => fun
  | [d] => { results := [.lit (.bool false)], args := [d] }
  | _ => none }
def FnSwapTwiceWrongFalsely : Prop := fnSwapTwiceRow.holds Try.pinned (OpenSpec.ofChange fnSwapTwiceWrong)

/- THE SECOND FORM. 'bulk': how many values and letters a reading holds, each counted each time it is reached (what is shared counts as often as it is met; a slice's spare places count too). A statement '..UptoSaid' is the law's where the arguments, and the package variables that the reading takes, are together of bulk at most 1048576: NARROWER than '..Said'. Prove '..Said' where nothing that the law and all that it calls make is longer than what came in: it says more and counts as full. Else prove '..UptoSaid'. A law counts once. -/
mutual
def uptoBulk {H : Type} : DataW H → Nat
  | .lit (.string bytes) => bytes.length + 1
  | .lit _ => 1
  | .nil => 1
  | .ptr d => uptoBulk d + 1
  | .slice elems spare => uptoBulkAll elems + uptoBulkAll spare + 1
  | .agg parts => uptoBulkAll parts + 1
  | .iface _ d => uptoBulk d + 1
  | .map entries => uptoBulkEntries entries + 1
  | .held _ => 1
def uptoBulkAll {H : Type} : List (DataW H) → Nat
  | [] => 0
  | d :: r => uptoBulk d + uptoBulkAll r
def uptoBulkEntries {H : Type} : List (Lit × DataW H) → Nat
  | [] => 0
  | x :: r => uptoBulkEntry x + uptoBulkEntries r
def uptoBulkEntry {H : Type} : Lit × DataW H → Nat
  | (.string bytes, d) => bytes.length + uptoBulk d + 1
  | (_, d) => uptoBulk d + 1
 end
def uptoSmall : (H : Type) → List (DataW H) → Bool := fun _ ds => decide (uptoBulkAll ds ≤ 1048576)
def OpenSpec.upto (s : _root_.Go.ChangeSpec) : _root_.Go.OpenSpec := { _root_.Go.OpenSpec.ofChange s with cond := some uptoSmall }

/-- 'laws.FnExactSizeOfCore', WHERE WHAT IT READS IS OF BULK AT MOST 1048576: true; the input reads as it did. -/
def fnExactSizeOfCoreUptoRow : OpenClaim := { program := "ytbeikpbnidbjfaa", sum := "43bbbe26e46b10731830e0bc8566a4ce385f6a9ba6a880684f31343322b96599", func := "loop.example/g03220/laws.FnExactSizeOfCore", spec := "fnExactSizeOfCore", recurses := true, loops := true, apart := false, narrowed := true }
def FnExactSizeOfCoreUptoSaid : Prop := fnExactSizeOfCoreUptoRow.holds Try.pinned (OpenSpec.upto fnExactSizeOfCoreSpec)

/-- 'laws.FnExactDepthOfCore', WHERE WHAT IT READS IS OF BULK AT MOST 1048576: true; the input reads as it did. -/
def fnExactDepthOfCoreUptoRow : OpenClaim := { program := "ytbeikpbnidbjfaa", sum := "43bbbe26e46b10731830e0bc8566a4ce385f6a9ba6a880684f31343322b96599", func := "loop.example/g03220/laws.FnExactDepthOfCore", spec := "fnExactDepthOfCore", recurses := true, loops := true, apart := false, narrowed := true }
def FnExactDepthOfCoreUptoSaid : Prop := fnExactDepthOfCoreUptoRow.holds Try.pinned (OpenSpec.upto fnExactDepthOfCoreSpec)

/-- 'laws.FnExactEqualCores', WHERE WHAT IT READS IS OF BULK AT MOST 1048576: true; the input reads as it did. -/
def fnExactEqualCoresUptoRow : OpenClaim := { program := "ytbeikpbnidbjfaa", sum := "43bbbe26e46b10731830e0bc8566a4ce385f6a9ba6a880684f31343322b96599", func := "loop.example/g03220/laws.FnExactEqualCores", spec := "fnExactEqualCores", unfollowed := true, recurses := true, loops := true, apart := false, narrowed := true }
def FnExactEqualCoresUptoSaid : Prop := fnExactEqualCoresUptoRow.holds Try.pinned (OpenSpec.upto fnExactEqualCoresSpec)

/-- 'laws.FnExactFreeVariables', WHERE WHAT IT READS IS OF BULK AT MOST 1048576: true; the input reads as it did. -/
def fnExactFreeVariablesUptoRow : OpenClaim := { program := "ytbeikpbnidbjfaa", sum := "43bbbe26e46b10731830e0bc8566a4ce385f6a9ba6a880684f31343322b96599", func := "loop.example/g03220/laws.FnExactFreeVariables", spec := "fnExactFreeVariables", unfollowed := true, recurses := true, loops := true, apart := false, narrowed := true }
def FnExactFreeVariablesUptoSaid : Prop := fnExactFreeVariablesUptoRow.holds Try.pinned (OpenSpec.upto fnExactFreeVariablesSpec)

/-- 'laws.FnExactBoundVariables', WHERE WHAT IT READS IS OF BULK AT MOST 1048576: true; the input reads as it did. -/
def fnExactBoundVariablesUptoRow : OpenClaim := { program := "ytbeikpbnidbjfaa", sum := "43bbbe26e46b10731830e0bc8566a4ce385f6a9ba6a880684f31343322b96599", func := "loop.example/g03220/laws.FnExactBoundVariables", spec := "fnExactBoundVariables", unfollowed := true, recurses := true, loops := true, apart := false, narrowed := true }
def FnExactBoundVariablesUptoSaid : Prop := fnExactBoundVariablesUptoRow.holds Try.pinned (OpenSpec.upto fnExactBoundVariablesSpec)

/-- 'laws.FnExactBoxedVariables', WHERE WHAT IT READS IS OF BULK AT MOST 1048576: true; the input reads as it did. -/
def fnExactBoxedVariablesUptoRow : OpenClaim := { program := "ytbeikpbnidbjfaa", sum := "43bbbe26e46b10731830e0bc8566a4ce385f6a9ba6a880684f31343322b96599", func := "loop.example/g03220/laws.FnExactBoxedVariables", spec := "fnExactBoxedVariables", unfollowed := true, recurses := true, loops := true, apart := false, narrowed := true }
def FnExactBoxedVariablesUptoSaid : Prop := fnExactBoxedVariablesUptoRow.holds Try.pinned (OpenSpec.upto fnExactBoxedVariablesSpec)

/-- 'laws.FnExactIsCore', WHERE WHAT IT READS IS OF BULK AT MOST 1048576: true; the input reads as it did. -/
def fnExactIsCoreUptoRow : OpenClaim := { program := "ytbeikpbnidbjfaa", sum := "43bbbe26e46b10731830e0bc8566a4ce385f6a9ba6a880684f31343322b96599", func := "loop.example/g03220/laws.FnExactIsCore", spec := "fnExactIsCore", inPlace := ["internal/bytealg.IndexByteString", "internal/bytealg.IndexString"], unfollowed := true, recurses := true, named := ["internal/bytealg.MaxLen"], loops := true, apart := false, narrowed := true }
def FnExactIsCoreUptoSaid : Prop := fnExactIsCoreUptoRow.holds Try.pinned (OpenSpec.upto fnExactIsCoreSpec)

/-- 'laws.FnExactAlphaEqual', WHERE WHAT IT READS IS OF BULK AT MOST 1048576: true; the input reads as it did. -/
def fnExactAlphaEqualUptoRow : OpenClaim := { program := "ytbeikpbnidbjfaa", sum := "43bbbe26e46b10731830e0bc8566a4ce385f6a9ba6a880684f31343322b96599", func := "loop.example/g03220/laws.FnExactAlphaEqual", spec := "fnExactAlphaEqual", inPlace := ["internal/bytealg.IndexByteString", "internal/bytealg.IndexString"], unfollowed := true, recurses := true, named := ["internal/bytealg.MaxLen"], loops := true, apart := false, narrowed := true }
def FnExactAlphaEqualUptoSaid : Prop := fnExactAlphaEqualUptoRow.holds Try.pinned (OpenSpec.upto fnExactAlphaEqualSpec)

/-- 'laws.FnExactTemplateFits', WHERE WHAT IT READS IS OF BULK AT MOST 1048576: true; the input reads as it did. -/
def fnExactTemplateFitsUptoRow : OpenClaim := { program := "ytbeikpbnidbjfaa", sum := "43bbbe26e46b10731830e0bc8566a4ce385f6a9ba6a880684f31343322b96599", func := "loop.example/g03220/laws.FnExactTemplateFits", spec := "fnExactTemplateFits", inPlace := ["internal/bytealg.IndexByteString", "internal/bytealg.IndexString"], unfollowed := true, recurses := true, named := ["internal/bytealg.MaxLen"], loops := true, apart := false, narrowed := true }
def FnExactTemplateFitsUptoSaid : Prop := fnExactTemplateFitsUptoRow.holds Try.pinned (OpenSpec.upto fnExactTemplateFitsSpec)

/-- 'laws.FnExactInstantiate', WHERE WHAT IT READS IS OF BULK AT MOST 1048576: true; the input reads as it did. -/
def fnExactInstantiateUptoRow : OpenClaim := { program := "ytbeikpbnidbjfaa", sum := "43bbbe26e46b10731830e0bc8566a4ce385f6a9ba6a880684f31343322b96599", func := "loop.example/g03220/laws.FnExactInstantiate", spec := "fnExactInstantiate", inPlace := ["internal/bytealg.IndexByteString", "internal/bytealg.IndexString"], unfollowed := true, recurses := true, named := ["internal/bytealg.MaxLen"], loops := true, apart := false, narrowed := true }
def FnExactInstantiateUptoSaid : Prop := fnExactInstantiateUptoRow.holds Try.pinned (OpenSpec.upto fnExactInstantiateSpec)

/-- 'laws.FnSwapTwice', WHERE WHAT IT READS IS OF BULK AT MOST 1048576: true; the input reads as it did. -/
def fnSwapTwiceUptoRow : OpenClaim := { program := "ytbeikpbnidbjfaa", sum := "43bbbe26e46b10731830e0bc8566a4ce385f6a9ba6a880684f31343322b96599", func := "loop.example/g03220/laws.FnSwapTwice", spec := "fnSwapTwice", inPlace := ["internal/bytealg.IndexByteString", "internal/bytealg.IndexString"], recurses := true, named := ["internal/bytealg.MaxLen"], apart := false, narrowed := true }
def FnSwapTwiceUptoSaid : Prop := fnSwapTwiceUptoRow.holds Try.pinned (OpenSpec.upto fnSwapTwiceSpec)

end Rows
end Go.Proofs.Ytbeikpbnidbjfaa
