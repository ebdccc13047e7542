/-
  NARROWER THAN 'FOR EVERY INPUT', by the rows' own cells (each row's printed sentence says how): FnExactEqualExpanders: loops · FnExactAlphaEqual: loops · FnExactTemplateFits: loops.
  DERIVED. THE GIVEN ROWS OF THIS SEAT. 5 by the template 'for every input the law returns true; each argument reads behind the call as it read before'; 0 by the template 'total and deterministic' (their statements: YtfbfmajjooannaaTotals.lean).
  GIVEN WITH THE SEED: the statements are not yours to turn. If you find one false, say at which input.
  Laid BY PROGRAM, IN A SANDBOX (cutbox-rows.mjs): the forced cells as the released guide's own fill.sh prints them over the translation 1396941463f737e1… (all of the seat's roots in one cut). By AI agents, Wed Nov 11 2026. No macro, syntax, notation, axiom, sorry.
-/
import Derived.Test.YtfbfmajjooannaaChecked
import GoSem.Claim
import GoSem.ClaimJoined
import GoSem.ClaimMapViews
import Derived.JoinedTies
import Derived.KernelRfl
namespace Go.Proofs.Ytfbfmajjooannaa
/- THE CELL 'sum', in the pinned program and in every row, IS THE sha256 OF THE DUMP (.gsa) THAT YtfbfmajjooannaaProg.lean LOADS. Nothing in Lean hashes anything: it is a label: what it is worth is what the hold of that sum in a sandbox is worth. -/
noncomputable def Try.pinned : Pinned := { name := "ytfbfmajjooannaa", sum := "1396941463f737e182a5e030c6de81f7a75882386a0a49f6fa1f37dac8d21426", checked := Try.checked }
namespace Rows
def none {H : Type} : Left H := { results := [], args := [] }

/-- 'laws.FnExactCodeText': WHATEVER THE INPUT: true; the input reads as it did. -/
def fnExactCodeTextSpec : ChangeSpec := { name := "fnExactCodeText", fn := fun _ => fun
  | [d] => { results := [.lit (.bool true)], args := [d] }
  | _ => none }
def fnExactCodeTextRow : OpenClaim := { program := "ytfbfmajjooannaa", sum := "1396941463f737e182a5e030c6de81f7a75882386a0a49f6fa1f37dac8d21426", func := "loop.example/g03220/laws.FnExactCodeText", spec := "fnExactCodeText", apart := false }
def FnExactCodeTextSaid : Prop := fnExactCodeTextRow.holds Try.pinned (OpenSpec.ofChange fnExactCodeTextSpec)

/-- ITS FALSE NEIGHBOUR: 'it returns false'. Refute it at one input. -/
def fnExactCodeTextWrong : ChangeSpec := { name := "fnExactCodeText", fn := fun _ => fun
  | [d] => { results := [.lit (.bool false)], args := [d] }
  | _ => none }
def FnExactCodeTextWrongFalsely : Prop := fnExactCodeTextRow.holds Try.pinned (OpenSpec.ofChange fnExactCodeTextWrong)

/-- 'laws.FnExactNewExpander': WHATEVER THE INPUT: true; the input reads as it did. -/
def fnExactNewExpanderSpec : ChangeSpec := { name := "fnExactNewExpander", fn := fun _ => fun
  | [] => { results := [.lit (.bool true)], args := [] }
  | _ => none }
def fnExactNewExpanderRow : OpenClaim := { program := "ytfbfmajjooannaa", sum := "1396941463f737e182a5e030c6de81f7a75882386a0a49f6fa1f37dac8d21426", func := "loop.example/g03220/laws.FnExactNewExpander", spec := "fnExactNewExpander", recurses := true, apart := false }
def FnExactNewExpanderSaid : Prop := fnExactNewExpanderRow.holds Try.pinned (OpenSpec.ofChange fnExactNewExpanderSpec)

/-- ITS FALSE NEIGHBOUR: 'it returns false'. Refute it at one input. -/
def fnExactNewExpanderWrong : ChangeSpec := { name := "fnExactNewExpander", fn := fun _ => fun
  | [] => { results := [.lit (.bool false)], args := [] }
  | _ => none }
def FnExactNewExpanderWrongFalsely : Prop := fnExactNewExpanderRow.holds Try.pinned (OpenSpec.ofChange fnExactNewExpanderWrong)

/-- 'laws.FnExactEqualExpanders': WHATEVER THE INPUT: true; the input reads as it did. -/
def fnExactEqualExpandersSpec : ChangeSpec := { name := "fnExactEqualExpanders", fn := fun _ => fun
  | [d1, d2] => { results := [.lit (.bool true)], args := [d1, d2] }
  | _ => none }
def fnExactEqualExpandersRow : OpenClaim := { program := "ytfbfmajjooannaa", sum := "1396941463f737e182a5e030c6de81f7a75882386a0a49f6fa1f37dac8d21426", func := "loop.example/g03220/laws.FnExactEqualExpanders", spec := "fnExactEqualExpanders", unfollowed := true, recurses := true, loops := true, apart := false }
def FnExactEqualExpandersSaid : Prop := fnExactEqualExpandersRow.holds Try.pinned (OpenSpec.ofChange fnExactEqualExpandersSpec)

/-- ITS FALSE NEIGHBOUR: 'it returns false'. Refute it at one input. -/
def fnExactEqualExpandersWrong : ChangeSpec := { name := "fnExactEqualExpanders", fn := fun _ => fun
  | [d1, d2] => { results := [.lit (.bool false)], args := [d1, d2] }
  | _ => none }
def FnExactEqualExpandersWrongFalsely : Prop := fnExactEqualExpandersRow.holds Try.pinned (OpenSpec.ofChange fnExactEqualExpandersWrong)

/-- 'laws.FnExactAlphaEqual': WHATEVER THE INPUT: true; the input reads as it did. -/
def fnExactAlphaEqualSpec : ChangeSpec := { name := "fnExactAlphaEqual", fn := fun _ => fun
  | [d1, d2] => { results := [.lit (.bool true)], args := [d1, d2] }
  | _ => none }
def fnExactAlphaEqualRow : OpenClaim := { program := "ytfbfmajjooannaa", sum := "1396941463f737e182a5e030c6de81f7a75882386a0a49f6fa1f37dac8d21426", func := "loop.example/g03220/laws.FnExactAlphaEqual", spec := "fnExactAlphaEqual", inPlace := ["internal/bytealg.IndexByteString", "internal/bytealg.IndexString"], unfollowed := true, recurses := true, named := ["internal/bytealg.MaxLen"], loops := true, apart := false }
def FnExactAlphaEqualSaid : Prop := fnExactAlphaEqualRow.holds Try.pinned (OpenSpec.ofChange fnExactAlphaEqualSpec)

/-- ITS FALSE NEIGHBOUR: 'it returns false'. Refute it at one input. -/
def fnExactAlphaEqualWrong : ChangeSpec := { name := "fnExactAlphaEqual", fn := fun _ => fun
  | [d1, d2] => { results := [.lit (.bool false)], args := [d1, d2] }
  | _ => none }
def FnExactAlphaEqualWrongFalsely : Prop := fnExactAlphaEqualRow.holds Try.pinned (OpenSpec.ofChange fnExactAlphaEqualWrong)

/-- 'laws.FnExactTemplateFits': WHATEVER THE INPUT: true; the input reads as it did. -/
def fnExactTemplateFitsSpec : ChangeSpec := { name := "fnExactTemplateFits", fn := fun _ => fun
  | [d1, d2] => { results := [.lit (.bool true)], args := [d1, d2] }
  | _ => none }
def fnExactTemplateFitsRow : OpenClaim := { program := "ytfbfmajjooannaa", sum := "1396941463f737e182a5e030c6de81f7a75882386a0a49f6fa1f37dac8d21426", func := "loop.example/g03220/laws.FnExactTemplateFits", spec := "fnExactTemplateFits", inPlace := ["internal/bytealg.IndexByteString", "internal/bytealg.IndexString"], unfollowed := true, recurses := true, named := ["internal/bytealg.MaxLen"], loops := true, apart := false }
def FnExactTemplateFitsSaid : Prop := fnExactTemplateFitsRow.holds Try.pinned (OpenSpec.ofChange fnExactTemplateFitsSpec)

/-- ITS FALSE NEIGHBOUR: 'it returns false'. Refute it at one input. -/
def fnExactTemplateFitsWrong : ChangeSpec := { name := "fnExactTemplateFits", fn := fun _ => fun
  | [d1, d2] => { results := [.lit (.bool false)], args := [d1, d2] }
  | _ => none }
def FnExactTemplateFitsWrongFalsely : Prop := fnExactTemplateFitsRow.holds Try.pinned (OpenSpec.ofChange fnExactTemplateFitsWrong)

/- THE SECOND FORM. 'bulk': how many values and letters a reading holds, each counted each time it is reached (what is shared counts as often as it is met; a slice's spare places count too). A statement '..UptoSaid' is the law's where the arguments, and the package variables that the reading takes, are together of bulk at most 1048576: NARROWER than '..Said'. Prove '..Said' where nothing that the law and all that it calls make is longer than what came in: it says more and counts as full. Else prove '..UptoSaid'. A law counts once. -/
mutual
def uptoBulk {H : Type} : DataW H → Nat
  | .lit (.string bytes) => bytes.length + 1
  | .lit _ => 1
  | .nil => 1
  | .ptr d => uptoBulk d + 1
  | .slice elems spare => uptoBulkAll elems + uptoBulkAll spare + 1
  | .agg parts => uptoBulkAll parts + 1
  | .iface _ d => uptoBulk d + 1
  | .map entries => uptoBulkEntries entries + 1
  | .held _ => 1
def uptoBulkAll {H : Type} : List (DataW H) → Nat
  | [] => 0
  | d :: r => uptoBulk d + uptoBulkAll r
def uptoBulkEntries {H : Type} : List (Lit × DataW H) → Nat
  | [] => 0
  | x :: r => uptoBulkEntry x + uptoBulkEntries r
def uptoBulkEntry {H : Type} : Lit × DataW H → Nat
  | (.string bytes, d) => bytes.length + uptoBulk d + 1
  | (_, d) => uptoBulk d + 1
 end
def uptoSmall : (H : Type) → List (DataW H) → Bool := fun _ ds => decide (uptoBulkAll ds ≤ 1048576)
def OpenSpec.upto (s : _root_.Go.ChangeSpec) : _root_.Go.OpenSpec := { _root_.Go.OpenSpec.ofChange s with cond := some uptoSmall }

/-- 'laws.FnExactCodeText', WHERE WHAT IT READS IS OF BULK AT MOST 1048576: true; the input reads as it did. -/
def fnExactCodeTextUptoRow : OpenClaim := { program := "ytfbfmajjooannaa", sum := "1396941463f737e182a5e030c6de81f7a75882386a0a49f6fa1f37dac8d21426", func := "loop.example/g03220/laws.FnExactCodeText", spec := "fnExactCodeText", apart := false, narrowed := true }
def FnExactCodeTextUptoSaid : Prop := fnExactCodeTextUptoRow.holds Try.pinned (OpenSpec.upto fnExactCodeTextSpec)

/-- 'laws.FnExactNewExpander', WHERE WHAT IT READS IS OF BULK AT MOST 1048576: true; the input reads as it did. -/
def fnExactNewExpanderUptoRow : OpenClaim := { program := "ytfbfmajjooannaa", sum := "1396941463f737e182a5e030c6de81f7a75882386a0a49f6fa1f37dac8d21426", func := "loop.example/g03220/laws.FnExactNewExpander", spec := "fnExactNewExpander", recurses := true, apart := false, narrowed := true }
def FnExactNewExpanderUptoSaid : Prop := fnExactNewExpanderUptoRow.holds Try.pinned (OpenSpec.upto fnExactNewExpanderSpec)

/-- 'laws.FnExactEqualExpanders', WHERE WHAT IT READS IS OF BULK AT MOST 1048576: true; the input reads as it did. -/
def fnExactEqualExpandersUptoRow : OpenClaim := { program := "ytfbfmajjooannaa", sum := "1396941463f737e182a5e030c6de81f7a75882386a0a49f6fa1f37dac8d21426", func := "loop.example/g03220/laws.FnExactEqualExpanders", spec := "fnExactEqualExpanders", unfollowed := true, recurses := true, loops := true, apart := false, narrowed := true }
def FnExactEqualExpandersUptoSaid : Prop := fnExactEqualExpandersUptoRow.holds Try.pinned (OpenSpec.upto fnExactEqualExpandersSpec)

/-- 'laws.FnExactAlphaEqual', WHERE WHAT IT READS IS OF BULK AT MOST 1048576: true; the input reads as it did. -/
def fnExactAlphaEqualUptoRow : OpenClaim := { program := "ytfbfmajjooannaa", sum := "1396941463f737e182a5e030c6de81f7a75882386a0a49f6fa1f37dac8d21426", func := "loop.example/g03220/laws.FnExactAlphaEqual", spec := "fnExactAlphaEqual", inPlace := ["internal/bytealg.IndexByteString", "internal/bytealg.IndexString"], unfollowed := true, recurses := true, named := ["internal/bytealg.MaxLen"], loops := true, apart := false, narrowed := true }
def FnExactAlphaEqualUptoSaid : Prop := fnExactAlphaEqualUptoRow.holds Try.pinned (OpenSpec.upto fnExactAlphaEqualSpec)

/-- 'laws.FnExactTemplateFits', WHERE WHAT IT READS IS OF BULK AT MOST 1048576: true; the input reads as it did. -/
def fnExactTemplateFitsUptoRow : OpenClaim := { program := "ytfbfmajjooannaa", sum := "1396941463f737e182a5e030c6de81f7a75882386a0a49f6fa1f37dac8d21426", func := "loop.example/g03220/laws.FnExactTemplateFits", spec := "fnExactTemplateFits", inPlace := ["internal/bytealg.IndexByteString", "internal/bytealg.IndexString"], unfollowed := true, recurses := true, named := ["internal/bytealg.MaxLen"], loops := true, apart := false, narrowed := true }
def FnExactTemplateFitsUptoSaid : Prop := fnExactTemplateFitsUptoRow.holds Try.pinned (OpenSpec.upto fnExactTemplateFitsSpec)

end Rows
end Go.Proofs.Ytfbfmajjooannaa
