/-
  NARROWER THAN 'FOR EVERY INPUT', by the rows' own cells (each row's printed sentence says how): FnExactSubstituteCore: loops · FnExactFoldApplication: loops · FnExactSimplifyNode: loops · FnExactIsWorld: loops · FnExactFreshScope: loops · FnExactBindVariable: loops · FnExactBindMacro: loops · FnExactPatternVariables: loops · FnExactRenumberCore: loops.
  DERIVED. THE GIVEN ROWS OF THIS SEAT. 9 by the template 'for every input the law returns true; each argument reads behind the call as it read before'; 0 by the template 'total and deterministic' (their statements: YtnkdfphbglcnmaaGreatTotals.lean).
  GIVEN WITH THE SEED: the statements are not yours to turn. If you find one false, say at which input.
  Laid BY PROGRAM, IN A SANDBOX (cutbox-rows.mjs): the forced cells as the released guide's own fill.sh prints them over the translation 0c0b8990967b7b2e… (all of the seat's roots in one cut). By AI agents, Wed Nov 11 2026. No macro, syntax, notation, axiom, sorry.
-/
import Derived.Test.YtnkdfphbglcnmaaGreatChecked
import GoSem.Claim
import GoSem.ClaimJoined
import GoSem.ClaimMapViews
import Derived.JoinedTies
import Derived.KernelRfl
namespace Go.Proofs.YtnkdfphbglcnmaaGreat
/- THE CELL 'sum', in the pinned program and in every row, IS THE sha256 OF THE DUMP (.gsa) THAT YtnkdfphbglcnmaaGreatProg.lean LOADS. Nothing in Lean hashes anything: it is a label: what it is worth is what the hold of that sum in a sandbox is worth. -/
noncomputable def Tryz.pinned : Pinned := { name := "ytnkdfphbglcnmaagreat", sum := "0c0b8990967b7b2e736e32a5b3166a3f3f7fa20f6245cca32723d11f37efffde", checked := Tryz.checked }
namespace Rows
def none {H : Type} : Left H := { results := [], args := [] }

/-- 'laws.FnExactSubstituteCore': WHATEVER THE INPUT: true; the input reads as it did. -/
def fnExactSubstituteCoreSpec : ChangeSpec := { name := "fnExactSubstituteCore", fn := fun _ => fun
  | [d1, d2, d3] => { results := [.lit (.bool true)], args := [d1, d2, d3] }
  | _ => none }
def fnExactSubstituteCoreRow : OpenClaim := { program := "ytnkdfphbglcnmaagreat", sum := "0c0b8990967b7b2e736e32a5b3166a3f3f7fa20f6245cca32723d11f37efffde", func := "loop.example/g03220/laws.FnExactSubstituteCore", spec := "fnExactSubstituteCore", inPlace := ["internal/bytealg.IndexByteString", "internal/bytealg.IndexString"], unfollowed := true, recurses := true, named := ["internal/bytealg.MaxLen"], loops := true, plainKeys := false, apart := false }
def FnExactSubstituteCoreSaid : Prop := fnExactSubstituteCoreRow.holds Tryz.pinned (OpenSpec.ofChange fnExactSubstituteCoreSpec)

/-- ITS FALSE NEIGHBOUR: 'it returns false'. Refute it at one input. -/
def fnExactSubstituteCoreWrong : ChangeSpec := { name := "fnExactSubstituteCore", fn := fun _ => fun
  | [d1, d2, d3] => { results := [.lit (.bool false)], args := [d1, d2, d3] }
  | _ => none }
def FnExactSubstituteCoreWrongFalsely : Prop := fnExactSubstituteCoreRow.holds Tryz.pinned (OpenSpec.ofChange fnExactSubstituteCoreWrong)

/-- 'laws.FnExactFoldApplication': WHATEVER THE INPUT: true; the input reads as it did. -/
def fnExactFoldApplicationSpec : ChangeSpec := { name := "fnExactFoldApplication", fn := fun _ => fun
  | [d] => { results := [.lit (.bool true)], args := [d] }
  | _ => none }
def fnExactFoldApplicationRow : OpenClaim := { program := "ytnkdfphbglcnmaagreat", sum := "0c0b8990967b7b2e736e32a5b3166a3f3f7fa20f6245cca32723d11f37efffde", func := "loop.example/g03220/laws.FnExactFoldApplication", spec := "fnExactFoldApplication", inPlace := ["internal/bytealg.IndexByteString", "internal/bytealg.IndexString"], unfollowed := true, recurses := true, named := ["internal/bytealg.MaxLen"], loops := true, plainKeys := false, apart := false }
def FnExactFoldApplicationSaid : Prop := fnExactFoldApplicationRow.holds Tryz.pinned (OpenSpec.ofChange fnExactFoldApplicationSpec)

/-- ITS FALSE NEIGHBOUR: 'it returns false'. Refute it at one input. -/
def fnExactFoldApplicationWrong : ChangeSpec := { name := "fnExactFoldApplication", fn := fun _ => fun
  | [d] => { results := [.lit (.bool false)], args := [d] }
  | _ => none }
def FnExactFoldApplicationWrongFalsely : Prop := fnExactFoldApplicationRow.holds Tryz.pinned (OpenSpec.ofChange fnExactFoldApplicationWrong)

/-- 'laws.FnExactSimplifyNode': WHATEVER THE INPUT: true; the input reads as it did. -/
def fnExactSimplifyNodeSpec : ChangeSpec := { name := "fnExactSimplifyNode", fn := fun _ => fun
  | [d1, d2] => { results := [.lit (.bool true)], args := [d1, d2] }
  | _ => none }
def fnExactSimplifyNodeRow : OpenClaim := { program := "ytnkdfphbglcnmaagreat", sum := "0c0b8990967b7b2e736e32a5b3166a3f3f7fa20f6245cca32723d11f37efffde", func := "loop.example/g03220/laws.FnExactSimplifyNode", spec := "fnExactSimplifyNode", inPlace := ["internal/bytealg.IndexByteString", "internal/bytealg.IndexString"], unfollowed := true, recurses := true, named := ["internal/bytealg.MaxLen"], loops := true, plainKeys := false, apart := false }
def FnExactSimplifyNodeSaid : Prop := fnExactSimplifyNodeRow.holds Tryz.pinned (OpenSpec.ofChange fnExactSimplifyNodeSpec)

/-- ITS FALSE NEIGHBOUR: 'it returns false'. Refute it at one input. -/
def fnExactSimplifyNodeWrong : ChangeSpec := { name := "fnExactSimplifyNode", fn := fun _ => fun
  | [d1, d2] => { results := [.lit (.bool false)], args := [d1, d2] }
  | _ => none }
def FnExactSimplifyNodeWrongFalsely : Prop := fnExactSimplifyNodeRow.holds Tryz.pinned (OpenSpec.ofChange fnExactSimplifyNodeWrong)

/-- 'laws.FnExactIsWorld': WHATEVER THE INPUT: true; the input reads as it did. -/
def fnExactIsWorldSpec : ChangeSpec := { name := "fnExactIsWorld", fn := fun _ => fun
  | [d] => { results := [.lit (.bool true)], args := [d] }
  | _ => none }
def fnExactIsWorldRow : OpenClaim := { program := "ytnkdfphbglcnmaagreat", sum := "0c0b8990967b7b2e736e32a5b3166a3f3f7fa20f6245cca32723d11f37efffde", func := "loop.example/g03220/laws.FnExactIsWorld", spec := "fnExactIsWorld", inPlace := ["internal/bytealg.IndexByteString", "internal/bytealg.IndexString"], unfollowed := true, recurses := true, named := ["internal/bytealg.MaxLen"], loops := true, plainKeys := false, apart := false }
def FnExactIsWorldSaid : Prop := fnExactIsWorldRow.holds Tryz.pinned (OpenSpec.ofChange fnExactIsWorldSpec)

/-- ITS FALSE NEIGHBOUR: 'it returns false'. Refute it at one input. -/
def fnExactIsWorldWrong : ChangeSpec := { name := "fnExactIsWorld", fn := fun _ => fun
  | [d] => { results := [.lit (.bool false)], args := [d] }
  | _ => none }
def FnExactIsWorldWrongFalsely : Prop := fnExactIsWorldRow.holds Tryz.pinned (OpenSpec.ofChange fnExactIsWorldWrong)

/-- 'laws.FnExactFreshScope': WHATEVER THE INPUT: true; the input reads as it did. -/
def fnExactFreshScopeSpec : ChangeSpec := { name := "fnExactFreshScope", fn := fun _ => fun
  | [d1, d2] => { results := [.lit (.bool true)], args := [d1, d2] }
  | _ => none }
def fnExactFreshScopeRow : OpenClaim := { program := "ytnkdfphbglcnmaagreat", sum := "0c0b8990967b7b2e736e32a5b3166a3f3f7fa20f6245cca32723d11f37efffde", func := "loop.example/g03220/laws.FnExactFreshScope", spec := "fnExactFreshScope", inPlace := ["internal/bytealg.IndexByteString", "internal/bytealg.IndexString"], unfollowed := true, recurses := true, named := ["internal/bytealg.MaxLen"], loops := true, plainKeys := false, apart := false }
def FnExactFreshScopeSaid : Prop := fnExactFreshScopeRow.holds Tryz.pinned (OpenSpec.ofChange fnExactFreshScopeSpec)

/-- ITS FALSE NEIGHBOUR: 'it returns false'. Refute it at one input. -/
def fnExactFreshScopeWrong : ChangeSpec := { name := "fnExactFreshScope", fn := fun _ => fun
  | [d1, d2] => { results := [.lit (.bool false)], args := [d1, d2] }
  | _ => none }
def FnExactFreshScopeWrongFalsely : Prop := fnExactFreshScopeRow.holds Tryz.pinned (OpenSpec.ofChange fnExactFreshScopeWrong)

/-- 'laws.FnExactBindVariable': WHATEVER THE INPUT: true; the input reads as it did. -/
def fnExactBindVariableSpec : ChangeSpec := { name := "fnExactBindVariable", fn := fun _ => fun
  | [d1, d2] => { results := [.lit (.bool true)], args := [d1, d2] }
  | _ => none }
def fnExactBindVariableRow : OpenClaim := { program := "ytnkdfphbglcnmaagreat", sum := "0c0b8990967b7b2e736e32a5b3166a3f3f7fa20f6245cca32723d11f37efffde", func := "loop.example/g03220/laws.FnExactBindVariable", spec := "fnExactBindVariable", inPlace := ["internal/bytealg.IndexByteString", "internal/bytealg.IndexString"], unfollowed := true, recurses := true, named := ["internal/bytealg.MaxLen"], loops := true, plainKeys := false, apart := false }
def FnExactBindVariableSaid : Prop := fnExactBindVariableRow.holds Tryz.pinned (OpenSpec.ofChange fnExactBindVariableSpec)

/-- ITS FALSE NEIGHBOUR: 'it returns false'. Refute it at one input. -/
def fnExactBindVariableWrong : ChangeSpec := { name := "fnExactBindVariable", fn := fun _ => fun
  | [d1, d2] => { results := [.lit (.bool false)], args := [d1, d2] }
  | _ => none }
def FnExactBindVariableWrongFalsely : Prop := fnExactBindVariableRow.holds Tryz.pinned (OpenSpec.ofChange fnExactBindVariableWrong)

/-- 'laws.FnExactBindMacro': WHATEVER THE INPUT: true; the input reads as it did. -/
def fnExactBindMacroSpec : ChangeSpec := { name := "fnExactBindMacro", fn := fun _ => fun
  | [d1, d2, d3] => { results := [.lit (.bool true)], args := [d1, d2, d3] }
  | _ => none }
def fnExactBindMacroRow : OpenClaim := { program := "ytnkdfphbglcnmaagreat", sum := "0c0b8990967b7b2e736e32a5b3166a3f3f7fa20f6245cca32723d11f37efffde", func := "loop.example/g03220/laws.FnExactBindMacro", spec := "fnExactBindMacro", inPlace := ["internal/bytealg.IndexByteString", "internal/bytealg.IndexString"], unfollowed := true, recurses := true, named := ["internal/bytealg.MaxLen"], loops := true, plainKeys := false, apart := false }
def FnExactBindMacroSaid : Prop := fnExactBindMacroRow.holds Tryz.pinned (OpenSpec.ofChange fnExactBindMacroSpec)

/-- ITS FALSE NEIGHBOUR: 'it returns false'. Refute it at one input. -/
def fnExactBindMacroWrong : ChangeSpec := { name := "fnExactBindMacro", fn := fun _ => fun
  | [d1, d2, d3] => { results := [.lit (.bool false)], args := [d1, d2, d3] }
  | _ => none }
def FnExactBindMacroWrongFalsely : Prop := fnExactBindMacroRow.holds Tryz.pinned (OpenSpec.ofChange fnExactBindMacroWrong)

/-- 'laws.FnExactPatternVariables': WHATEVER THE INPUT: true; the input reads as it did. -/
def fnExactPatternVariablesSpec : ChangeSpec := { name := "fnExactPatternVariables", fn := fun _ => fun
  | [d1, d2] => { results := [.lit (.bool true)], args := [d1, d2] }
  | _ => none }
def fnExactPatternVariablesRow : OpenClaim := { program := "ytnkdfphbglcnmaagreat", sum := "0c0b8990967b7b2e736e32a5b3166a3f3f7fa20f6245cca32723d11f37efffde", func := "loop.example/g03220/laws.FnExactPatternVariables", spec := "fnExactPatternVariables", inPlace := ["internal/bytealg.IndexByteString", "internal/bytealg.IndexString"], unfollowed := true, recurses := true, named := ["internal/bytealg.MaxLen"], loops := true, plainKeys := false, apart := false }
def FnExactPatternVariablesSaid : Prop := fnExactPatternVariablesRow.holds Tryz.pinned (OpenSpec.ofChange fnExactPatternVariablesSpec)

/-- ITS FALSE NEIGHBOUR: 'it returns false'. Refute it at one input. -/
def fnExactPatternVariablesWrong : ChangeSpec := { name := "fnExactPatternVariables", fn := fun _ => fun
  | [d1, d2] => { results := [.lit (.bool false)], args := [d1, d2] }
  | _ => none }
def FnExactPatternVariablesWrongFalsely : Prop := fnExactPatternVariablesRow.holds Tryz.pinned (OpenSpec.ofChange fnExactPatternVariablesWrong)

/-- 'laws.FnExactRenumberCore': WHATEVER THE INPUT: true; the input reads as it did. -/
def fnExactRenumberCoreSpec : ChangeSpec := { name := "fnExactRenumberCore", fn := fun _ => fun
  | [d1, d2] => { results := [.lit (.bool true)], args := [d1, d2] }
  | _ => none }
def fnExactRenumberCoreRow : OpenClaim := { program := "ytnkdfphbglcnmaagreat", sum := "0c0b8990967b7b2e736e32a5b3166a3f3f7fa20f6245cca32723d11f37efffde", func := "loop.example/g03220/laws.FnExactRenumberCore", spec := "fnExactRenumberCore", inPlace := ["internal/bytealg.IndexByteString", "internal/bytealg.IndexString"], unfollowed := true, recurses := true, named := ["internal/bytealg.MaxLen"], loops := true, plainKeys := false, apart := false }
def FnExactRenumberCoreSaid : Prop := fnExactRenumberCoreRow.holds Tryz.pinned (OpenSpec.ofChange fnExactRenumberCoreSpec)

/-- ITS FALSE NEIGHBOUR: 'it returns false'. Refute it at one input. -/
def fnExactRenumberCoreWrong : ChangeSpec := { name := "fnExactRenumberCore", fn := fun _ => fun
  | [d1, d2] => { results := [.lit (.bool false)], args := [d1, d2] }
  | _ => none }
def FnExactRenumberCoreWrongFalsely : Prop := fnExactRenumberCoreRow.holds Tryz.pinned (OpenSpec.ofChange fnExactRenumberCoreWrong)

/- THE SECOND FORM. 'bulk': how many values and letters a reading holds, each counted each time it is reached (what is shared counts as often as it is met; a slice's spare places count too). A statement '..UptoSaid' is the law's where the arguments, and the package variables that the reading takes, are together of bulk at most 1048576: NARROWER than '..Said'. Prove '..Said' where nothing that the law and all that it calls make is longer than what came in: it says more and counts as full. Else prove '..UptoSaid'. A law counts once. -/
mutual
def uptoBulk {H : Type} : DataW H → Nat
  | .lit (.string bytes) => bytes.length + 1
  | .lit _ => 1
  | .nil => 1
  | .ptr d => uptoBulk d + 1
  | .slice elems spare => uptoBulkAll elems + uptoBulkAll spare + 1
  | .agg parts => uptoBulkAll parts + 1
  | .iface _ d => uptoBulk d + 1
  | .map entries => uptoBulkEntries entries + 1
  | .held _ => 1
def uptoBulkAll {H : Type} : List (DataW H) → Nat
  | [] => 0
  | d :: r => uptoBulk d + uptoBulkAll r
def uptoBulkEntries {H : Type} : List (Lit × DataW H) → Nat
  | [] => 0
  | x :: r => uptoBulkEntry x + uptoBulkEntries r
def uptoBulkEntry {H : Type} : Lit × DataW H → Nat
  | (.string bytes, d) => bytes.length + uptoBulk d + 1
  | (_, d) => uptoBulk d + 1
 end
def uptoSmall : (H : Type) → List (DataW H) → Bool := fun _ ds => decide (uptoBulkAll ds ≤ 1048576)
def OpenSpec.upto (s : _root_.Go.ChangeSpec) : _root_.Go.OpenSpec := { _root_.Go.OpenSpec.ofChange s with cond := some uptoSmall }

/-- 'laws.FnExactSubstituteCore', WHERE WHAT IT READS IS OF BULK AT MOST 1048576: true; the input reads as it did. -/
def fnExactSubstituteCoreUptoRow : OpenClaim := { program := "ytnkdfphbglcnmaagreat", sum := "0c0b8990967b7b2e736e32a5b3166a3f3f7fa20f6245cca32723d11f37efffde", func := "loop.example/g03220/laws.FnExactSubstituteCore", spec := "fnExactSubstituteCore", inPlace := ["internal/bytealg.IndexByteString", "internal/bytealg.IndexString"], unfollowed := true, recurses := true, named := ["internal/bytealg.MaxLen"], loops := true, plainKeys := false, apart := false, narrowed := true }
def FnExactSubstituteCoreUptoSaid : Prop := fnExactSubstituteCoreUptoRow.holds Tryz.pinned (OpenSpec.upto fnExactSubstituteCoreSpec)

/-- 'laws.FnExactFoldApplication', WHERE WHAT IT READS IS OF BULK AT MOST 1048576: true; the input reads as it did. -/
def fnExactFoldApplicationUptoRow : OpenClaim := { program := "ytnkdfphbglcnmaagreat", sum := "0c0b8990967b7b2e736e32a5b3166a3f3f7fa20f6245cca32723d11f37efffde", func := "loop.example/g03220/laws.FnExactFoldApplication", spec := "fnExactFoldApplication", inPlace := ["internal/bytealg.IndexByteString", "internal/bytealg.IndexString"], unfollowed := true, recurses := true, named := ["internal/bytealg.MaxLen"], loops := true, plainKeys := false, apart := false, narrowed := true }
def FnExactFoldApplicationUptoSaid : Prop := fnExactFoldApplicationUptoRow.holds Tryz.pinned (OpenSpec.upto fnExactFoldApplicationSpec)

/-- 'laws.FnExactSimplifyNode', WHERE WHAT IT READS IS OF BULK AT MOST 1048576: true; the input reads as it did. -/
def fnExactSimplifyNodeUptoRow : OpenClaim := { program := "ytnkdfphbglcnmaagreat", sum := "0c0b8990967b7b2e736e32a5b3166a3f3f7fa20f6245cca32723d11f37efffde", func := "loop.example/g03220/laws.FnExactSimplifyNode", spec := "fnExactSimplifyNode", inPlace := ["internal/bytealg.IndexByteString", "internal/bytealg.IndexString"], unfollowed := true, recurses := true, named := ["internal/bytealg.MaxLen"], loops := true, plainKeys := false, apart := false, narrowed := true }
def FnExactSimplifyNodeUptoSaid : Prop := fnExactSimplifyNodeUptoRow.holds Tryz.pinned (OpenSpec.upto fnExactSimplifyNodeSpec)

/-- 'laws.FnExactIsWorld', WHERE WHAT IT READS IS OF BULK AT MOST 1048576: true; the input reads as it did. -/
def fnExactIsWorldUptoRow : OpenClaim := { program := "ytnkdfphbglcnmaagreat", sum := "0c0b8990967b7b2e736e32a5b3166a3f3f7fa20f6245cca32723d11f37efffde", func := "loop.example/g03220/laws.FnExactIsWorld", spec := "fnExactIsWorld", inPlace := ["internal/bytealg.IndexByteString", "internal/bytealg.IndexString"], unfollowed := true, recurses := true, named := ["internal/bytealg.MaxLen"], loops := true, plainKeys := false, apart := false, narrowed := true }
def FnExactIsWorldUptoSaid : Prop := fnExactIsWorldUptoRow.holds Tryz.pinned (OpenSpec.upto fnExactIsWorldSpec)

/-- 'laws.FnExactFreshScope', WHERE WHAT IT READS IS OF BULK AT MOST 1048576: true; the input reads as it did. -/
def fnExactFreshScopeUptoRow : OpenClaim := { program := "ytnkdfphbglcnmaagreat", sum := "0c0b8990967b7b2e736e32a5b3166a3f3f7fa20f6245cca32723d11f37efffde", func := "loop.example/g03220/laws.FnExactFreshScope", spec := "fnExactFreshScope", inPlace := ["internal/bytealg.IndexByteString", "internal/bytealg.IndexString"], unfollowed := true, recurses := true, named := ["internal/bytealg.MaxLen"], loops := true, plainKeys := false, apart := false, narrowed := true }
def FnExactFreshScopeUptoSaid : Prop := fnExactFreshScopeUptoRow.holds Tryz.pinned (OpenSpec.upto fnExactFreshScopeSpec)

/-- 'laws.FnExactBindVariable', WHERE WHAT IT READS IS OF BULK AT MOST 1048576: true; the input reads as it did. -/
def fnExactBindVariableUptoRow : OpenClaim := { program := "ytnkdfphbglcnmaagreat", sum := "0c0b8990967b7b2e736e32a5b3166a3f3f7fa20f6245cca32723d11f37efffde", func := "loop.example/g03220/laws.FnExactBindVariable", spec := "fnExactBindVariable", inPlace := ["internal/bytealg.IndexByteString", "internal/bytealg.IndexString"], unfollowed := true, recurses := true, named := ["internal/bytealg.MaxLen"], loops := true, plainKeys := false, apart := false, narrowed := true }
def FnExactBindVariableUptoSaid : Prop := fnExactBindVariableUptoRow.holds Tryz.pinned (OpenSpec.upto fnExactBindVariableSpec)

/-- 'laws.FnExactBindMacro', WHERE WHAT IT READS IS OF BULK AT MOST 1048576: true; the input reads as it did. -/
def fnExactBindMacroUptoRow : OpenClaim := { program := "ytnkdfphbglcnmaagreat", sum := "0c0b8990967b7b2e736e32a5b3166a3f3f7fa20f6245cca32723d11f37efffde", func := "loop.example/g03220/laws.FnExactBindMacro", spec := "fnExactBindMacro", inPlace := ["internal/bytealg.IndexByteString", "internal/bytealg.IndexString"], unfollowed := true, recurses := true, named := ["internal/bytealg.MaxLen"], loops := true, plainKeys := false, apart := false, narrowed := true }
def FnExactBindMacroUptoSaid : Prop := fnExactBindMacroUptoRow.holds Tryz.pinned (OpenSpec.upto fnExactBindMacroSpec)

/-- 'laws.FnExactPatternVariables', WHERE WHAT IT READS IS OF BULK AT MOST 1048576: true; the input reads as it did. -/
def fnExactPatternVariablesUptoRow : OpenClaim := { program := "ytnkdfphbglcnmaagreat", sum := "0c0b8990967b7b2e736e32a5b3166a3f3f7fa20f6245cca32723d11f37efffde", func := "loop.example/g03220/laws.FnExactPatternVariables", spec := "fnExactPatternVariables", inPlace := ["internal/bytealg.IndexByteString", "internal/bytealg.IndexString"], unfollowed := true, recurses := true, named := ["internal/bytealg.MaxLen"], loops := true, plainKeys := false, apart := false, narrowed := true }
def FnExactPatternVariablesUptoSaid : Prop := fnExactPatternVariablesUptoRow.holds Tryz.pinned (OpenSpec.upto fnExactPatternVariablesSpec)

/-- 'laws.FnExactRenumberCore', WHERE WHAT IT READS IS OF BULK AT MOST 1048576: true; the input reads as it did. -/
def fnExactRenumberCoreUptoRow : OpenClaim := { program := "ytnkdfphbglcnmaagreat", sum := "0c0b8990967b7b2e736e32a5b3166a3f3f7fa20f6245cca32723d11f37efffde", func := "loop.example/g03220/laws.FnExactRenumberCore", spec := "fnExactRenumberCore", inPlace := ["internal/bytealg.IndexByteString", "internal/bytealg.IndexString"], unfollowed := true, recurses := true, named := ["internal/bytealg.MaxLen"], loops := true, plainKeys := false, apart := false, narrowed := true }
def FnExactRenumberCoreUptoSaid : Prop := fnExactRenumberCoreUptoRow.holds Tryz.pinned (OpenSpec.upto fnExactRenumberCoreSpec)

end Rows
end Go.Proofs.YtnkdfphbglcnmaaGreat
