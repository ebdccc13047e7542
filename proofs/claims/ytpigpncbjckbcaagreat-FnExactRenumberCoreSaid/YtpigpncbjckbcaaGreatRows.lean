/-
  NARROWER THAN 'FOR EVERY INPUT', by the rows' own cells (each row's printed sentence says how): FnExactRenumberCore: loops · FnExactFreshScope: loops · FnExactBindVariable: loops · FnExactPatternVariables: loops · FnExactFoldApplication: loops.
  DERIVED. THE GIVEN ROWS OF THIS SEAT. 5 by the template 'for every input the law returns true; each argument reads behind the call as it read before'; 0 by the template 'total and deterministic' (their statements: YtpigpncbjckbcaaGreatTotals.lean).
  GIVEN WITH THE SEED: the statements are not yours to turn. If you find one false, say at which input.
  Laid BY PROGRAM, IN A SANDBOX (cutbox-rows.mjs): the forced cells as the released guide's own fill.sh prints them over the translation b61704a64d93f966… (all of the seat's roots in one cut). By AI agents, Wed Nov 11 2026. No macro, syntax, notation, axiom, sorry.
-/
import Derived.Test.YtpigpncbjckbcaaGreatChecked
import GoSem.Claim
import GoSem.ClaimJoined
import GoSem.ClaimMapViews
import Derived.JoinedTies
import Derived.KernelRfl
namespace Go.Proofs.YtpigpncbjckbcaaGreat
/- THE CELL 'sum', in the pinned program and in every row, IS THE sha256 OF THE DUMP (.gsa) THAT YtpigpncbjckbcaaGreatProg.lean LOADS. Nothing in Lean hashes anything: it is a label: what it is worth is what the hold of that sum in a sandbox is worth. -/
noncomputable def Tryz.pinned : Pinned := { name := "ytpigpncbjckbcaagreat", sum := "b61704a64d93f9662e6c8cbc2eb50381a068ba1119d8aedd0a145729d2912705", checked := Tryz.checked }
namespace Rows
def none {H : Type} : Left H := { results := [], args := [] }

/-- 'laws.FnExactRenumberCore': WHATEVER THE INPUT: true; the input reads as it did. -/
def fnExactRenumberCoreSpec : ChangeSpec := { name := "fnExactRenumberCore", fn := fun _ => fun
  | [d1, d2] => { results := [.lit (.bool true)], args := [d1, d2] }
  | _ => none }
def fnExactRenumberCoreRow : OpenClaim := { program := "ytpigpncbjckbcaagreat", sum := "b61704a64d93f9662e6c8cbc2eb50381a068ba1119d8aedd0a145729d2912705", func := "loop.example/g03220/laws.FnExactRenumberCore", spec := "fnExactRenumberCore", inPlace := ["internal/bytealg.IndexByteString", "internal/bytealg.IndexString"], unfollowed := true, recurses := true, named := ["internal/bytealg.MaxLen"], loops := true, apart := false }
def FnExactRenumberCoreSaid : Prop := fnExactRenumberCoreRow.holds Tryz.pinned (OpenSpec.ofChange fnExactRenumberCoreSpec)

/-- ITS FALSE NEIGHBOUR: 'it returns false'. Refute it at one input. -/
def fnExactRenumberCoreWrong : ChangeSpec := { name := "fnExactRenumberCore", fn := fun _ => fun
  | [d1, d2] => { results := [.lit (.bool false)], args := [d1, d2] }
  | _ => none }
def FnExactRenumberCoreWrongFalsely : Prop := fnExactRenumberCoreRow.holds Tryz.pinned (OpenSpec.ofChange fnExactRenumberCoreWrong)

/-- 'laws.FnExactFreshScope': WHATEVER THE INPUT: true; the input reads as it did. -/
def fnExactFreshScopeSpec : ChangeSpec := { name := "fnExactFreshScope", fn := fun _ => fun
  | [d1, d2] => { results := [.lit (.bool true)], args := [d1, d2] }
  | _ => none }
def fnExactFreshScopeRow : OpenClaim := { program := "ytpigpncbjckbcaagreat", sum := "b61704a64d93f9662e6c8cbc2eb50381a068ba1119d8aedd0a145729d2912705", func := "loop.example/g03220/laws.FnExactFreshScope", spec := "fnExactFreshScope", inPlace := ["internal/bytealg.IndexByteString", "internal/bytealg.IndexString"], unfollowed := true, recurses := true, named := ["internal/bytealg.MaxLen"], loops := true, apart := false }
def FnExactFreshScopeSaid : Prop := fnExactFreshScopeRow.holds Tryz.pinned (OpenSpec.ofChange fnExactFreshScopeSpec)

/-- ITS FALSE NEIGHBOUR: 'it returns false'. Refute it at one input. -/
def fnExactFreshScopeWrong : ChangeSpec := { name := "fnExactFreshScope", fn := fun _ => fun
  | [d1, d2] => { results := [.lit (.bool false)], args := [d1, d2] }
  | _ => none }
def FnExactFreshScopeWrongFalsely : Prop := fnExactFreshScopeRow.holds Tryz.pinned (OpenSpec.ofChange fnExactFreshScopeWrong)

/-- 'laws.FnExactBindVariable': WHATEVER THE INPUT: true; the input reads as it did. -/
def fnExactBindVariableSpec : ChangeSpec := { name := "fnExactBindVariable", fn := fun _ => fun
  | [d1, d2] => { results := [.lit (.bool true)], args := [d1, d2] }
  | _ => none }
def fnExactBindVariableRow : OpenClaim := { program := "ytpigpncbjckbcaagreat", sum := "b61704a64d93f9662e6c8cbc2eb50381a068ba1119d8aedd0a145729d2912705", func := "loop.example/g03220/laws.FnExactBindVariable", spec := "fnExactBindVariable", inPlace := ["internal/bytealg.IndexByteString", "internal/bytealg.IndexString"], unfollowed := true, recurses := true, named := ["internal/bytealg.MaxLen"], loops := true, apart := false }
def FnExactBindVariableSaid : Prop := fnExactBindVariableRow.holds Tryz.pinned (OpenSpec.ofChange fnExactBindVariableSpec)

/-- ITS FALSE NEIGHBOUR: 'it returns false'. Refute it at one input. -/
def fnExactBindVariableWrong : ChangeSpec := { name := "fnExactBindVariable", fn := fun _ => fun
  | [d1, d2] => { results := [.lit (.bool false)], args := [d1, d2] }
  | _ => none }
def FnExactBindVariableWrongFalsely : Prop := fnExactBindVariableRow.holds Tryz.pinned (OpenSpec.ofChange fnExactBindVariableWrong)

/-- 'laws.FnExactPatternVariables': WHATEVER THE INPUT: true; the input reads as it did. -/
def fnExactPatternVariablesSpec : ChangeSpec := { name := "fnExactPatternVariables", fn := fun _ => fun
  | [d1, d2] => { results := [.lit (.bool true)], args := [d1, d2] }
  | _ => none }
def fnExactPatternVariablesRow : OpenClaim := { program := "ytpigpncbjckbcaagreat", sum := "b61704a64d93f9662e6c8cbc2eb50381a068ba1119d8aedd0a145729d2912705", func := "loop.example/g03220/laws.FnExactPatternVariables", spec := "fnExactPatternVariables", inPlace := ["internal/bytealg.IndexByteString", "internal/bytealg.IndexString"], unfollowed := true, recurses := true, named := ["internal/bytealg.MaxLen"], loops := true, apart := false }
def FnExactPatternVariablesSaid : Prop := fnExactPatternVariablesRow.holds Tryz.pinned (OpenSpec.ofChange fnExactPatternVariablesSpec)

/-- ITS FALSE NEIGHBOUR: 'it returns false'. Refute it at one input. -/
def fnExactPatternVariablesWrong : ChangeSpec := { name := "fnExactPatternVariables", fn := fun _ => fun
  | [d1, d2] => { results := [.lit (.bool false)], args := [d1, d2] }
  | _ => none }
def FnExactPatternVariablesWrongFalsely : Prop := fnExactPatternVariablesRow.holds Tryz.pinned (OpenSpec.ofChange fnExactPatternVariablesWrong)

/-- 'laws.FnExactFoldApplication': WHATEVER THE INPUT: true; the input reads as it did. -/
def fnExactFoldApplicationSpec : ChangeSpec := { name := "fnExactFoldApplication", fn := fun _ => fun
  | [d] => { results := [.lit (.bool true)], args := [d] }
  | _ => none }
def fnExactFoldApplicationRow : OpenClaim := { program := "ytpigpncbjckbcaagreat", sum := "b61704a64d93f9662e6c8cbc2eb50381a068ba1119d8aedd0a145729d2912705", func := "loop.example/g03220/laws.FnExactFoldApplication", spec := "fnExactFoldApplication", inPlace := ["internal/bytealg.IndexByteString", "internal/bytealg.IndexString"], unfollowed := true, recurses := true, named := ["internal/bytealg.MaxLen"], loops := true, apart := false }
def FnExactFoldApplicationSaid : Prop := fnExactFoldApplicationRow.holds Tryz.pinned (OpenSpec.ofChange fnExactFoldApplicationSpec)

/-- ITS FALSE NEIGHBOUR: 'it returns false'. Refute it at one input. -/
def fnExactFoldApplicationWrong : ChangeSpec := { name := "fnExactFoldApplication", fn := fun _ => fun
  | [d] => { results := [.lit (.bool false)], args := [d] }
  | _ => none }
def FnExactFoldApplicationWrongFalsely : Prop := fnExactFoldApplicationRow.holds Tryz.pinned (OpenSpec.ofChange fnExactFoldApplicationWrong)

/- THE SECOND FORM. 'bulk': how many values and letters a reading holds, each counted each time it is reached (what is shared counts as often as it is met; a slice's spare places count too). A statement '..UptoSaid' is the law's where the arguments, and the package variables that the reading takes, are together of bulk at most 1048576: NARROWER than '..Said'. Prove '..Said' where nothing that the law and all that it calls make is longer than what came in: it says more and counts as full. Else prove '..UptoSaid'. A law counts once. -/
mutual
def uptoBulk {H : Type} : DataW H → Nat
  | .lit (.string bytes) => bytes.length + 1
  | .lit _ => 1
  | .nil => 1
  | .ptr d => uptoBulk d + 1
  | .slice elems spare => uptoBulkAll elems + uptoBulkAll spare + 1
  | .agg parts => uptoBulkAll parts + 1
  | .iface _ d => uptoBulk d + 1
  | .map entries => uptoBulkEntries entries + 1
  | .held _ => 1
def uptoBulkAll {H : Type} : List (DataW H) → Nat
  | [] => 0
  | d :: r => uptoBulk d + uptoBulkAll r
def uptoBulkEntries {H : Type} : List (Lit × DataW H) → Nat
  | [] => 0
  | x :: r => uptoBulkEntry x + uptoBulkEntries r
def uptoBulkEntry {H : Type} : Lit × DataW H → Nat
  | (.string bytes, d) => bytes.length + uptoBulk d + 1
  | (_, d) => uptoBulk d + 1
 end
def uptoSmall : (H : Type) → List (DataW H) → Bool := fun _ ds => decide (uptoBulkAll ds ≤ 1048576)
def OpenSpec.upto (s : _root_.Go.ChangeSpec) : _root_.Go.OpenSpec := { _root_.Go.OpenSpec.ofChange s with cond := some uptoSmall }

/-- 'laws.FnExactRenumberCore', WHERE WHAT IT READS IS OF BULK AT MOST 1048576: true; the input reads as it did. -/
def fnExactRenumberCoreUptoRow : OpenClaim := { program := "ytpigpncbjckbcaagreat", sum := "b61704a64d93f9662e6c8cbc2eb50381a068ba1119d8aedd0a145729d2912705", func := "loop.example/g03220/laws.FnExactRenumberCore", spec := "fnExactRenumberCore", inPlace := ["internal/bytealg.IndexByteString", "internal/bytealg.IndexString"], unfollowed := true, recurses := true, named := ["internal/bytealg.MaxLen"], loops := true, apart := false, narrowed := true }
def FnExactRenumberCoreUptoSaid : Prop := fnExactRenumberCoreUptoRow.holds Tryz.pinned (OpenSpec.upto fnExactRenumberCoreSpec)

/-- 'laws.FnExactFreshScope', WHERE WHAT IT READS IS OF BULK AT MOST 1048576: true; the input reads as it did. -/
def fnExactFreshScopeUptoRow : OpenClaim := { program := "ytpigpncbjckbcaagreat", sum := "b61704a64d93f9662e6c8cbc2eb50381a068ba1119d8aedd0a145729d2912705", func := "loop.example/g03220/laws.FnExactFreshScope", spec := "fnExactFreshScope", inPlace := ["internal/bytealg.IndexByteString", "internal/bytealg.IndexString"], unfollowed := true, recurses := true, named := ["internal/bytealg.MaxLen"], loops := true, apart := false, narrowed := true }
def FnExactFreshScopeUptoSaid : Prop := fnExactFreshScopeUptoRow.holds Tryz.pinned (OpenSpec.upto fnExactFreshScopeSpec)

/-- 'laws.FnExactBindVariable', WHERE WHAT IT READS IS OF BULK AT MOST 1048576: true; the input reads as it did. -/
def fnExactBindVariableUptoRow : OpenClaim := { program := "ytpigpncbjckbcaagreat", sum := "b61704a64d93f9662e6c8cbc2eb50381a068ba1119d8aedd0a145729d2912705", func := "loop.example/g03220/laws.FnExactBindVariable", spec := "fnExactBindVariable", inPlace := ["internal/bytealg.IndexByteString", "internal/bytealg.IndexString"], unfollowed := true, recurses := true, named := ["internal/bytealg.MaxLen"], loops := true, apart := false, narrowed := true }
def FnExactBindVariableUptoSaid : Prop := fnExactBindVariableUptoRow.holds Tryz.pinned (OpenSpec.upto fnExactBindVariableSpec)

/-- 'laws.FnExactPatternVariables', WHERE WHAT IT READS IS OF BULK AT MOST 1048576: true; the input reads as it did. -/
def fnExactPatternVariablesUptoRow : OpenClaim := { program := "ytpigpncbjckbcaagreat", sum := "b61704a64d93f9662e6c8cbc2eb50381a068ba1119d8aedd0a145729d2912705", func := "loop.example/g03220/laws.FnExactPatternVariables", spec := "fnExactPatternVariables", inPlace := ["internal/bytealg.IndexByteString", "internal/bytealg.IndexString"], unfollowed := true, recurses := true, named := ["internal/bytealg.MaxLen"], loops := true, apart := false, narrowed := true }
def FnExactPatternVariablesUptoSaid : Prop := fnExactPatternVariablesUptoRow.holds Tryz.pinned (OpenSpec.upto fnExactPatternVariablesSpec)

/-- 'laws.FnExactFoldApplication', WHERE WHAT IT READS IS OF BULK AT MOST 1048576: true; the input reads as it did. -/
def fnExactFoldApplicationUptoRow : OpenClaim := { program := "ytpigpncbjckbcaagreat", sum := "b61704a64d93f9662e6c8cbc2eb50381a068ba1119d8aedd0a145729d2912705", func := "loop.example/g03220/laws.FnExactFoldApplication", spec := "fnExactFoldApplication", inPlace := ["internal/bytealg.IndexByteString", "internal/bytealg.IndexString"], unfollowed := true, recurses := true, named := ["internal/bytealg.MaxLen"], loops := true, apart := false, narrowed := true }
def FnExactFoldApplicationUptoSaid : Prop := fnExactFoldApplicationUptoRow.holds Tryz.pinned (OpenSpec.upto fnExactFoldApplicationSpec)

end Rows
end Go.Proofs.YtpigpncbjckbcaaGreat
