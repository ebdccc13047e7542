/-
  NARROWER THAN 'FOR EVERY INPUT', by the rows' own cells (each row's printed sentence says how): FnExactIsRules: loops · FnExactPatternVariables: loops · FnExactIsExpander: loops.
  DERIVED. THE GIVEN ROWS OF THIS SEAT. 3 by the template 'for every input the law returns true; each argument reads behind the call as it read before'; 0 by the template 'total and deterministic' (their statements: YtnldlbglgalbaabGreatTotals.lean).
  GIVEN WITH THE SEED: the statements are not yours to turn. If you find one false, say at which input.
  Laid BY PROGRAM, IN A SANDBOX (cutbox-rows.mjs): the forced cells as the released guide's own fill.sh prints them over the translation 86a734d1ee340522… (all of the seat's roots in one cut). By AI agents, Wed Nov 11 2026. No macro, syntax, notation, axiom, sorry.
-/
import Derived.Test.YtnldlbglgalbaabGreatChecked
import GoSem.Claim
import GoSem.ClaimJoined
import GoSem.ClaimMapViews
import Derived.JoinedTies
import Derived.KernelRfl
namespace Go.Proofs.YtnldlbglgalbaabGreat
/- THE CELL 'sum', in the pinned program and in every row, IS THE sha256 OF THE DUMP (.gsa) THAT YtnldlbglgalbaabGreatProg.lean LOADS. Nothing in Lean hashes anything: it is a label: what it is worth is what the hold of that sum in a sandbox is worth. -/
noncomputable def Tryz.pinned : Pinned := { name := "ytnldlbglgalbaabgreat", sum := "86a734d1ee340522e56f9bb49d37a5615c80253a57850bca0964c4bdf0c6acb1", checked := Tryz.checked }
namespace Rows
def none {H : Type} : Left H := { results := [], args := [] }

/-- 'laws.FnExactIsRules': WHATEVER THE INPUT: true; the input reads as it did. -/
def fnExactIsRulesSpec : ChangeSpec := { name := "fnExactIsRules", fn := fun _ => fun
  | [d] => { results := [.lit (.bool true)], args := [d] }
  | _ => none }
def fnExactIsRulesRow : OpenClaim := { program := "ytnldlbglgalbaabgreat", sum := "86a734d1ee340522e56f9bb49d37a5615c80253a57850bca0964c4bdf0c6acb1", func := "loop.example/g03220/laws.FnExactIsRules", spec := "fnExactIsRules", inPlace := ["internal/bytealg.IndexByteString", "internal/bytealg.IndexString"], unfollowed := true, recurses := true, named := ["internal/bytealg.MaxLen"], loops := true, apart := false }
def FnExactIsRulesSaid : Prop := fnExactIsRulesRow.holds Tryz.pinned (OpenSpec.ofChange fnExactIsRulesSpec)

/-- ITS FALSE NEIGHBOUR: 'it returns false'. Refute it at one input. -/
def fnExactIsRulesWrong : ChangeSpec := { name := "fnExactIsRules", fn := fun _ => fun
  | [d] => { results := [.lit (.bool false)], args := [d] }
  | _ => none }
def FnExactIsRulesWrongFalsely : Prop := fnExactIsRulesRow.holds Tryz.pinned (OpenSpec.ofChange fnExactIsRulesWrong)

/-- 'laws.FnExactPatternVariables': WHATEVER THE INPUT: true; the input reads as it did. -/
def fnExactPatternVariablesSpec : ChangeSpec := { name := "fnExactPatternVariables", fn := fun _ => fun
  | [d1, d2] => { results := [.lit (.bool true)], args := [d1, d2] }
  | _ => none }
def fnExactPatternVariablesRow : OpenClaim := { program := "ytnldlbglgalbaabgreat", sum := "86a734d1ee340522e56f9bb49d37a5615c80253a57850bca0964c4bdf0c6acb1", func := "loop.example/g03220/laws.FnExactPatternVariables", spec := "fnExactPatternVariables", inPlace := ["internal/bytealg.IndexByteString", "internal/bytealg.IndexString"], unfollowed := true, recurses := true, named := ["internal/bytealg.MaxLen"], loops := true, apart := false }
def FnExactPatternVariablesSaid : Prop := fnExactPatternVariablesRow.holds Tryz.pinned (OpenSpec.ofChange fnExactPatternVariablesSpec)

/-- ITS FALSE NEIGHBOUR: 'it returns false'. Refute it at one input. -/
def fnExactPatternVariablesWrong : ChangeSpec := { name := "fnExactPatternVariables", fn := fun _ => fun
  | [d1, d2] => { results := [.lit (.bool false)], args := [d1, d2] }
  | _ => none }
def FnExactPatternVariablesWrongFalsely : Prop := fnExactPatternVariablesRow.holds Tryz.pinned (OpenSpec.ofChange fnExactPatternVariablesWrong)

/-- 'laws.FnExactIsExpander': WHATEVER THE INPUT: true; the input reads as it did. -/
def fnExactIsExpanderSpec : ChangeSpec := { name := "fnExactIsExpander", fn := fun _ => fun
  | [d] => { results := [.lit (.bool true)], args := [d] }
  | _ => none }
def fnExactIsExpanderRow : OpenClaim := { program := "ytnldlbglgalbaabgreat", sum := "86a734d1ee340522e56f9bb49d37a5615c80253a57850bca0964c4bdf0c6acb1", func := "loop.example/g03220/laws.FnExactIsExpander", spec := "fnExactIsExpander", inPlace := ["internal/bytealg.IndexByteString", "internal/bytealg.IndexString"], unfollowed := true, recurses := true, named := ["internal/bytealg.MaxLen"], loops := true, apart := false }
def FnExactIsExpanderSaid : Prop := fnExactIsExpanderRow.holds Tryz.pinned (OpenSpec.ofChange fnExactIsExpanderSpec)

/-- ITS FALSE NEIGHBOUR: 'it returns false'. Refute it at one input. -/
def fnExactIsExpanderWrong : ChangeSpec := { name := "fnExactIsExpander", fn := fun _ => fun
  | [d] => { results := [.lit (.bool false)], args := [d] }
  | _ => none }
def FnExactIsExpanderWrongFalsely : Prop := fnExactIsExpanderRow.holds Tryz.pinned (OpenSpec.ofChange fnExactIsExpanderWrong)

/- THE SECOND FORM. 'bulk': how many values and letters a reading holds, each counted each time it is reached (what is shared counts as often as it is met; a slice's spare places count too). A statement '..UptoSaid' is the law's where the arguments, and the package variables that the reading takes, are together of bulk at most 1048576: NARROWER than '..Said'. Prove '..Said' where nothing that the law and all that it calls make is longer than what came in: it says more and counts as full. Else prove '..UptoSaid'. A law counts once. -/
mutual
def uptoBulk {H : Type} : DataW H → Nat
  | .lit (.string bytes) => bytes.length + 1
  | .lit _ => 1
  | .nil => 1
  | .ptr d => uptoBulk d + 1
  | .slice elems spare => uptoBulkAll elems + uptoBulkAll spare + 1
  | .agg parts => uptoBulkAll parts + 1
  | .iface _ d => uptoBulk d + 1
  | .map entries => uptoBulkEntries entries + 1
  | .held _ => 1
def uptoBulkAll {H : Type} : List (DataW H) → Nat
  | [] => 0
  | d :: r => uptoBulk d + uptoBulkAll r
def uptoBulkEntries {H : Type} : List (Lit × DataW H) → Nat
  | [] => 0
  | x :: r => uptoBulkEntry x + uptoBulkEntries r
def uptoBulkEntry {H : Type} : Lit × DataW H → Nat
  | (.string bytes, d) => bytes.length + uptoBulk d + 1
  | (_, d) => uptoBulk d + 1
 end
def uptoSmall : (H : Type) → List (DataW H) → Bool := fun _ ds => decide (uptoBulkAll ds ≤ 1048576)
def OpenSpec.upto (s : _root_.Go.ChangeSpec) : _root_.Go.OpenSpec := { _root_.Go.OpenSpec.ofChange s with cond := some uptoSmall }

/-- 'laws.FnExactIsRules', WHERE WHAT IT READS IS OF BULK AT MOST 1048576: true; the input reads as it did. -/
def fnExactIsRulesUptoRow : OpenClaim := { program := "ytnldlbglgalbaabgreat", sum := "86a734d1ee340522e56f9bb49d37a5615c80253a57850bca0964c4bdf0c6acb1", func := "loop.example/g03220/laws.FnExactIsRules", spec := "fnExactIsRules", inPlace := ["internal/bytealg.IndexByteString", "internal/bytealg.IndexString"], unfollowed := true, recurses := true, named := ["internal/bytealg.MaxLen"], loops := true, apart := false, narrowed := true }
def FnExactIsRulesUptoSaid : Prop := fnExactIsRulesUptoRow.holds Tryz.pinned (OpenSpec.upto fnExactIsRulesSpec)

/-- 'laws.FnExactPatternVariables', WHERE WHAT IT READS IS OF BULK AT MOST 1048576: true; the input reads as it did. -/
def fnExactPatternVariablesUptoRow : OpenClaim := { program := "ytnldlbglgalbaabgreat", sum := "86a734d1ee340522e56f9bb49d37a5615c80253a57850bca0964c4bdf0c6acb1", func := "loop.example/g03220/laws.FnExactPatternVariables", spec := "fnExactPatternVariables", inPlace := ["internal/bytealg.IndexByteString", "internal/bytealg.IndexString"], unfollowed := true, recurses := true, named := ["internal/bytealg.MaxLen"], loops := true, apart := false, narrowed := true }
def FnExactPatternVariablesUptoSaid : Prop := fnExactPatternVariablesUptoRow.holds Tryz.pinned (OpenSpec.upto fnExactPatternVariablesSpec)

/-- 'laws.FnExactIsExpander', WHERE WHAT IT READS IS OF BULK AT MOST 1048576: true; the input reads as it did. -/
def fnExactIsExpanderUptoRow : OpenClaim := { program := "ytnldlbglgalbaabgreat", sum := "86a734d1ee340522e56f9bb49d37a5615c80253a57850bca0964c4bdf0c6acb1", func := "loop.example/g03220/laws.FnExactIsExpander", spec := "fnExactIsExpander", inPlace := ["internal/bytealg.IndexByteString", "internal/bytealg.IndexString"], unfollowed := true, recurses := true, named := ["internal/bytealg.MaxLen"], loops := true, apart := false, narrowed := true }
def FnExactIsExpanderUptoSaid : Prop := fnExactIsExpanderUptoRow.holds Tryz.pinned (OpenSpec.upto fnExactIsExpanderSpec)

end Rows
end Go.Proofs.YtnldlbglgalbaabGreat
