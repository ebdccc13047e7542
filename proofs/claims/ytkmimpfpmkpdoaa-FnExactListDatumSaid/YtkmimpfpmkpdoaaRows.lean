/-
  NARROWER THAN 'FOR EVERY INPUT', by the rows' own cells (each row's printed sentence says how): FnExactListDatum: loops · FnExactCountNodes: loops · FnExactDepthOf: loops · FnExactEqualData: loops · FnExactIsDatum: loops · FnExactAreData: loops · FnExactSwapSymbols: loops · FnExactSymbolsOf: loops.
  DERIVED. THE GIVEN ROWS OF THIS SEAT. 14 by the template 'for every input the law returns true; each argument reads behind the call as it read before'; 0 by the template 'total and deterministic' (their statements: YtkmimpfpmkpdoaaTotals.lean).
  GIVEN WITH THE SEED: the statements are not yours to turn. If you find one false, say at which input.
  Laid BY PROGRAM, IN A SANDBOX (cutbox-rows.mjs): the forced cells as the released guide's own fill.sh prints them over the translation 1f37cce8705e71fa… (all of the seat's roots in one cut). By AI agents, Wed Nov 11 2026. No macro, syntax, notation, axiom, sorry.
-/
import Derived.Test.YtkmimpfpmkpdoaaChecked
import GoSem.Claim
import GoSem.ClaimJoined
import GoSem.ClaimMapViews
import Derived.JoinedTies
import Derived.KernelRfl
namespace Go.Proofs.Ytkmimpfpmkpdoaa
/- THE CELL 'sum', in the pinned program and in every row, IS THE sha256 OF THE DUMP (.gsa) THAT YtkmimpfpmkpdoaaProg.lean LOADS. Nothing in Lean hashes anything: it is a label: what it is worth is what the hold of that sum in a sandbox is worth. -/
noncomputable def Try.pinned : Pinned := { name := "ytkmimpfpmkpdoaa", sum := "1f37cce8705e71fa0d4a7b3a075641c8fbf99f0efdcf74da3a7a5f616114900f", checked := Try.checked }
namespace Rows
def none {H : Type} : Left H := { results := [], args := [] }

/-- 'laws.FnSwapTwice': WHATEVER THE INPUT: true; the input reads as it did. -/
def fnSwapTwiceSpec : ChangeSpec := { name := "fnSwapTwice", fn := fun _ => fun
  | [d] => { results := [.lit (.bool true)], args := [d] }
  | _ => none }
def fnSwapTwiceRow : OpenClaim := { program := "ytkmimpfpmkpdoaa", sum := "1f37cce8705e71fa0d4a7b3a075641c8fbf99f0efdcf74da3a7a5f616114900f", func := "loop.example/g03220/laws.FnSwapTwice", spec := "fnSwapTwice", inPlace := ["internal/bytealg.IndexByteString", "internal/bytealg.IndexString"], recurses := true, named := ["internal/bytealg.MaxLen"], apart := false }
def FnSwapTwiceSaid : Prop := fnSwapTwiceRow.holds Try.pinned (OpenSpec.ofChange fnSwapTwiceSpec)

/-- ITS FALSE NEIGHBOUR: 'it returns false'. Refute it at one input. -/
def fnSwapTwiceWrong : ChangeSpec := { name := "fnSwapTwice", fn := fun _ => fun
  | [d] => { results := [.lit (.bool false)], args := [d] }
  | _ => none }
def FnSwapTwiceWrongFalsely : Prop := fnSwapTwiceRow.holds Try.pinned (OpenSpec.ofChange fnSwapTwiceWrong)

/-- 'laws.FnExactIsSymbol': WHATEVER THE INPUT: true; the input reads as it did. -/
def fnExactIsSymbolSpec : ChangeSpec := { name := "fnExactIsSymbol", fn := fun _ => fun
  | [d] => { results := [.lit (.bool true)], args := [d] }
  | _ => none }
def fnExactIsSymbolRow : OpenClaim := { program := "ytkmimpfpmkpdoaa", sum := "1f37cce8705e71fa0d4a7b3a075641c8fbf99f0efdcf74da3a7a5f616114900f", func := "loop.example/g03220/laws.FnExactIsSymbol", spec := "fnExactIsSymbol", inPlace := ["internal/bytealg.IndexByteString", "internal/bytealg.IndexString"], named := ["internal/bytealg.MaxLen"], apart := false }
def FnExactIsSymbolSaid : Prop := fnExactIsSymbolRow.holds Try.pinned (OpenSpec.ofChange fnExactIsSymbolSpec)

/-- ITS FALSE NEIGHBOUR: 'it returns false'. Refute it at one input. -/
def fnExactIsSymbolWrong : ChangeSpec := { name := "fnExactIsSymbol", fn := fun _ => fun
  | [d] => { results := [.lit (.bool false)], args := [d] }
  | _ => none }
def FnExactIsSymbolWrongFalsely : Prop := fnExactIsSymbolRow.holds Try.pinned (OpenSpec.ofChange fnExactIsSymbolWrong)

/-- 'laws.FnExactSymbolDatum': WHATEVER THE INPUT: true; the input reads as it did. -/
def fnExactSymbolDatumSpec : ChangeSpec := { name := "fnExactSymbolDatum", fn := fun _ => fun
  | [d] => { results := [.lit (.bool true)], args := [d] }
  | _ => none }
def fnExactSymbolDatumRow : OpenClaim := { program := "ytkmimpfpmkpdoaa", sum := "1f37cce8705e71fa0d4a7b3a075641c8fbf99f0efdcf74da3a7a5f616114900f", func := "loop.example/g03220/laws.FnExactSymbolDatum", spec := "fnExactSymbolDatum", inPlace := ["internal/bytealg.IndexByteString", "internal/bytealg.IndexString"], recurses := true, named := ["internal/bytealg.MaxLen"], apart := false }
def FnExactSymbolDatumSaid : Prop := fnExactSymbolDatumRow.holds Try.pinned (OpenSpec.ofChange fnExactSymbolDatumSpec)

/-- ITS FALSE NEIGHBOUR: 'it returns false'. Refute it at one input. -/
def fnExactSymbolDatumWrong : ChangeSpec := { name := "fnExactSymbolDatum", fn := fun _ => fun
  | [d] => { results := [.lit (.bool false)], args := [d] }
  | _ => none }
def FnExactSymbolDatumWrongFalsely : Prop := fnExactSymbolDatumRow.holds Try.pinned (OpenSpec.ofChange fnExactSymbolDatumWrong)

/-- 'laws.FnExactNumberDatum': WHATEVER THE INPUT: true; the input reads as it did. -/
def fnExactNumberDatumSpec : ChangeSpec := { name := "fnExactNumberDatum", fn := fun _ => fun
  | [d] => { results := [.lit (.bool true)], args := [d] }
  | _ => none }
def fnExactNumberDatumRow : OpenClaim := { program := "ytkmimpfpmkpdoaa", sum := "1f37cce8705e71fa0d4a7b3a075641c8fbf99f0efdcf74da3a7a5f616114900f", func := "loop.example/g03220/laws.FnExactNumberDatum", spec := "fnExactNumberDatum", inPlace := ["internal/bytealg.IndexByteString", "internal/bytealg.IndexString"], recurses := true, named := ["internal/bytealg.MaxLen"], apart := false }
def FnExactNumberDatumSaid : Prop := fnExactNumberDatumRow.holds Try.pinned (OpenSpec.ofChange fnExactNumberDatumSpec)

/-- ITS FALSE NEIGHBOUR: 'it returns false'. Refute it at one input. -/
def fnExactNumberDatumWrong : ChangeSpec := { name := "fnExactNumberDatum", fn := fun _ => fun
  | [d] => { results := [.lit (.bool false)], args := [d] }
  | _ => none }
def FnExactNumberDatumWrongFalsely : Prop := fnExactNumberDatumRow.holds Try.pinned (OpenSpec.ofChange fnExactNumberDatumWrong)

/-- 'laws.FnExactBooleanDatum': WHATEVER THE INPUT: true; the input reads as it did. -/
def fnExactBooleanDatumSpec : ChangeSpec := { name := "fnExactBooleanDatum", fn := fun _ => fun
  | [d] => { results := [.lit (.bool true)], args := [d] }
  | _ => none }
def fnExactBooleanDatumRow : OpenClaim := { program := "ytkmimpfpmkpdoaa", sum := "1f37cce8705e71fa0d4a7b3a075641c8fbf99f0efdcf74da3a7a5f616114900f", func := "loop.example/g03220/laws.FnExactBooleanDatum", spec := "fnExactBooleanDatum", recurses := true, apart := false }
def FnExactBooleanDatumSaid : Prop := fnExactBooleanDatumRow.holds Try.pinned (OpenSpec.ofChange fnExactBooleanDatumSpec)

/-- ITS FALSE NEIGHBOUR: 'it returns false'. Refute it at one input. -/
def fnExactBooleanDatumWrong : ChangeSpec := { name := "fnExactBooleanDatum", fn := fun _ => fun
  | [d] => { results := [.lit (.bool false)], args := [d] }
  | _ => none }
def FnExactBooleanDatumWrongFalsely : Prop := fnExactBooleanDatumRow.holds Try.pinned (OpenSpec.ofChange fnExactBooleanDatumWrong)

/-- 'laws.FnExactStringDatum': WHATEVER THE INPUT: true; the input reads as it did. -/
def fnExactStringDatumSpec : ChangeSpec := { name := "fnExactStringDatum", fn := fun _ => fun
  | [d] => { results := [.lit (.bool true)], args := [d] }
  | _ => none }
def fnExactStringDatumRow : OpenClaim := { program := "ytkmimpfpmkpdoaa", sum := "1f37cce8705e71fa0d4a7b3a075641c8fbf99f0efdcf74da3a7a5f616114900f", func := "loop.example/g03220/laws.FnExactStringDatum", spec := "fnExactStringDatum", inPlace := ["internal/bytealg.IndexByteString", "internal/bytealg.IndexString"], recurses := true, named := ["internal/bytealg.MaxLen"], apart := false }
def FnExactStringDatumSaid : Prop := fnExactStringDatumRow.holds Try.pinned (OpenSpec.ofChange fnExactStringDatumSpec)

/-- ITS FALSE NEIGHBOUR: 'it returns false'. Refute it at one input. -/
def fnExactStringDatumWrong : ChangeSpec := { name := "fnExactStringDatum", fn := fun _ => fun
  | [d] => { results := [.lit (.bool false)], args := [d] }
  | _ => none }
def FnExactStringDatumWrongFalsely : Prop := fnExactStringDatumRow.holds Try.pinned (OpenSpec.ofChange fnExactStringDatumWrong)

/-- 'laws.FnExactListDatum': WHATEVER THE INPUT: true; the input reads as it did. -/
def fnExactListDatumSpec : ChangeSpec := { name := "fnExactListDatum", fn := fun _ => fun
  | [d] => { results := [.lit (.bool true)], args := [d] }
  | _ => none }
def fnExactListDatumRow : OpenClaim := { program := "ytkmimpfpmkpdoaa", sum := "1f37cce8705e71fa0d4a7b3a075641c8fbf99f0efdcf74da3a7a5f616114900f", func := "loop.example/g03220/laws.FnExactListDatum", spec := "fnExactListDatum", recurses := true, loops := true, apart := false }
def FnExactListDatumSaid : Prop := fnExactListDatumRow.holds Try.pinned (OpenSpec.ofChange fnExactListDatumSpec)

/-- ITS FALSE NEIGHBOUR: 'it returns false'. Refute it at one input. -/
def fnExactListDatumWrong : ChangeSpec := { name := "fnExactListDatum", fn := fun _ => fun
  | [d] => { results := [.lit (.bool false)], args := [d] }
  | _ => none }
def FnExactListDatumWrongFalsely : Prop := fnExactListDatumRow.holds Try.pinned (OpenSpec.ofChange fnExactListDatumWrong)

/-- 'laws.FnExactCountNodes': WHATEVER THE INPUT: true; the input reads as it did. -/
def fnExactCountNodesSpec : ChangeSpec := { name := "fnExactCountNodes", fn := fun _ => fun
  | [d] => { results := [.lit (.bool true)], args := [d] }
  | _ => none }
def fnExactCountNodesRow : OpenClaim := { program := "ytkmimpfpmkpdoaa", sum := "1f37cce8705e71fa0d4a7b3a075641c8fbf99f0efdcf74da3a7a5f616114900f", func := "loop.example/g03220/laws.FnExactCountNodes", spec := "fnExactCountNodes", recurses := true, loops := true, apart := false }
def FnExactCountNodesSaid : Prop := fnExactCountNodesRow.holds Try.pinned (OpenSpec.ofChange fnExactCountNodesSpec)

/-- ITS FALSE NEIGHBOUR: 'it returns false'. Refute it at one input. -/
def fnExactCountNodesWrong : ChangeSpec := { name := "fnExactCountNodes", fn := fun _ => fun
  | [d] => { results := [.lit (.bool false)], args := [d] }
  | _ => none }
def FnExactCountNodesWrongFalsely : Prop := fnExactCountNodesRow.holds Try.pinned (OpenSpec.ofChange fnExactCountNodesWrong)

/-- 'laws.FnExactDepthOf': WHATEVER THE INPUT: true; the input reads as it did. -/
def fnExactDepthOfSpec : ChangeSpec := { name := "fnExactDepthOf", fn := fun _ => fun
  | [d] => { results := [.lit (.bool true)], args := [d] }
  | _ => none }
def fnExactDepthOfRow : OpenClaim := { program := "ytkmimpfpmkpdoaa", sum := "1f37cce8705e71fa0d4a7b3a075641c8fbf99f0efdcf74da3a7a5f616114900f", func := "loop.example/g03220/laws.FnExactDepthOf", spec := "fnExactDepthOf", recurses := true, loops := true, apart := false }
def FnExactDepthOfSaid : Prop := fnExactDepthOfRow.holds Try.pinned (OpenSpec.ofChange fnExactDepthOfSpec)

/-- ITS FALSE NEIGHBOUR: 'it returns false'. Refute it at one input. -/
def fnExactDepthOfWrong : ChangeSpec := { name := "fnExactDepthOf", fn := fun _ => fun
  | [d] => { results := [.lit (.bool false)], args := [d] }
  | _ => none }
def FnExactDepthOfWrongFalsely : Prop := fnExactDepthOfRow.holds Try.pinned (OpenSpec.ofChange fnExactDepthOfWrong)

/-- 'laws.FnExactEqualData': WHATEVER THE INPUT: true; the input reads as it did. -/
def fnExactEqualDataSpec : ChangeSpec := { name := "fnExactEqualData", fn := fun _ => fun
  | [d1, d2] => { results := [.lit (.bool true)], args := [d1, d2] }
  | _ => none }
def fnExactEqualDataRow : OpenClaim := { program := "ytkmimpfpmkpdoaa", sum := "1f37cce8705e71fa0d4a7b3a075641c8fbf99f0efdcf74da3a7a5f616114900f", func := "loop.example/g03220/laws.FnExactEqualData", spec := "fnExactEqualData", recurses := true, loops := true, apart := false }
def FnExactEqualDataSaid : Prop := fnExactEqualDataRow.holds Try.pinned (OpenSpec.ofChange fnExactEqualDataSpec)

/-- ITS FALSE NEIGHBOUR: 'it returns false'. Refute it at one input. -/
def fnExactEqualDataWrong : ChangeSpec := { name := "fnExactEqualData", fn := fun _ => fun
  | [d1, d2] => { results := [.lit (.bool false)], args := [d1, d2] }
  | _ => none }
def FnExactEqualDataWrongFalsely : Prop := fnExactEqualDataRow.holds Try.pinned (OpenSpec.ofChange fnExactEqualDataWrong)

/-- 'laws.FnExactIsDatum': WHATEVER THE INPUT: true; the input reads as it did. -/
def fnExactIsDatumSpec : ChangeSpec := { name := "fnExactIsDatum", fn := fun _ => fun
  | [d] => { results := [.lit (.bool true)], args := [d] }
  | _ => none }
def fnExactIsDatumRow : OpenClaim := { program := "ytkmimpfpmkpdoaa", sum := "1f37cce8705e71fa0d4a7b3a075641c8fbf99f0efdcf74da3a7a5f616114900f", func := "loop.example/g03220/laws.FnExactIsDatum", spec := "fnExactIsDatum", inPlace := ["internal/bytealg.IndexByteString", "internal/bytealg.IndexString"], recurses := true, named := ["internal/bytealg.MaxLen"], loops := true, apart := false }
def FnExactIsDatumSaid : Prop := fnExactIsDatumRow.holds Try.pinned (OpenSpec.ofChange fnExactIsDatumSpec)

/-- ITS FALSE NEIGHBOUR: 'it returns false'. Refute it at one input. -/
def fnExactIsDatumWrong : ChangeSpec := { name := "fnExactIsDatum", fn := fun _ => fun
  | [d] => { results := [.lit (.bool false)], args := [d] }
  | _ => none }
def FnExactIsDatumWrongFalsely : Prop := fnExactIsDatumRow.holds Try.pinned (OpenSpec.ofChange fnExactIsDatumWrong)

/-- 'laws.FnExactAreData': WHATEVER THE INPUT: true; the input reads as it did. -/
def fnExactAreDataSpec : ChangeSpec := { name := "fnExactAreData", fn := fun _ => fun
  | [d] => { results := [.lit (.bool true)], args := [d] }
  | _ => none }
def fnExactAreDataRow : OpenClaim := { program := "ytkmimpfpmkpdoaa", sum := "1f37cce8705e71fa0d4a7b3a075641c8fbf99f0efdcf74da3a7a5f616114900f", func := "loop.example/g03220/laws.FnExactAreData", spec := "fnExactAreData", inPlace := ["internal/bytealg.IndexByteString", "internal/bytealg.IndexString"], recurses := true, named := ["internal/bytealg.MaxLen"], loops := true, apart := false }
def FnExactAreDataSaid : Prop := fnExactAreDataRow.holds Try.pinned (OpenSpec.ofChange fnExactAreDataSpec)

/-- ITS FALSE NEIGHBOUR: 'it returns false'. Refute it at one input. -/
def fnExactAreDataWrong : ChangeSpec := { name := "fnExactAreData", fn := fun _ => fun
  | [d] => { results := [.lit (.bool false)], args := [d] }
  | _ => none }
def FnExactAreDataWrongFalsely : Prop := fnExactAreDataRow.holds Try.pinned (OpenSpec.ofChange fnExactAreDataWrong)

/-- 'laws.FnExactSwapSymbols': WHATEVER THE INPUT: true; the input reads as it did. -/
def fnExactSwapSymbolsSpec : ChangeSpec := { name := "fnExactSwapSymbols", fn := fun _ => fun
  | [d1, d2, d3] => { results := [.lit (.bool true)], args := [d1, d2, d3] }
  | _ => none }
def fnExactSwapSymbolsRow : OpenClaim := { program := "ytkmimpfpmkpdoaa", sum := "1f37cce8705e71fa0d4a7b3a075641c8fbf99f0efdcf74da3a7a5f616114900f", func := "loop.example/g03220/laws.FnExactSwapSymbols", spec := "fnExactSwapSymbols", inPlace := ["internal/bytealg.IndexByteString", "internal/bytealg.IndexString"], recurses := true, named := ["internal/bytealg.MaxLen"], loops := true, apart := false }
def FnExactSwapSymbolsSaid : Prop := fnExactSwapSymbolsRow.holds Try.pinned (OpenSpec.ofChange fnExactSwapSymbolsSpec)

/-- ITS FALSE NEIGHBOUR: 'it returns false'. Refute it at one input. -/
def fnExactSwapSymbolsWrong : ChangeSpec := { name := "fnExactSwapSymbols", fn := fun _ => fun
  | [d1, d2, d3] => { results := [.lit (.bool false)], args := [d1, d2, d3] }
  | _ => none }
def FnExactSwapSymbolsWrongFalsely : Prop := fnExactSwapSymbolsRow.holds Try.pinned (OpenSpec.ofChange fnExactSwapSymbolsWrong)

/-- 'laws.FnExactSymbolsOf': WHATEVER THE INPUT: true; the input reads as it did. -/
def fnExactSymbolsOfSpec : ChangeSpec := { name := "fnExactSymbolsOf", fn := fun _ => fun
  | [d] => { results := [.lit (.bool true)], args := [d] }
  | _ => none }
def fnExactSymbolsOfRow : OpenClaim := { program := "ytkmimpfpmkpdoaa", sum := "1f37cce8705e71fa0d4a7b3a075641c8fbf99f0efdcf74da3a7a5f616114900f", func := "loop.example/g03220/laws.FnExactSymbolsOf", spec := "fnExactSymbolsOf", inPlace := ["internal/bytealg.IndexByteString", "internal/bytealg.IndexString"], recurses := true, named := ["internal/bytealg.MaxLen"], loops := true, apart := false }
def FnExactSymbolsOfSaid : Prop := fnExactSymbolsOfRow.holds Try.pinned (OpenSpec.ofChange fnExactSymbolsOfSpec)

/-- ITS FALSE NEIGHBOUR: 'it returns false'. Refute it at one input. -/
def fnExactSymbolsOfWrong : ChangeSpec := { name := "fnExactSymbolsOf", fn := fun _ => fun
  | [d] => { results := [.lit (.bool false)], args := [d] }
  | _ => none }
def FnExactSymbolsOfWrongFalsely : Prop := fnExactSymbolsOfRow.holds Try.pinned (OpenSpec.ofChange fnExactSymbolsOfWrong)

/- THE SECOND FORM. 'bulk': how many values and letters a reading holds, each counted each time it is reached (what is shared counts as often as it is met; a slice's spare places count too). A statement '..UptoSaid' is the law's where the arguments, and the package variables that the reading takes, are together of bulk at most 1048576: NARROWER than '..Said'. Prove '..Said' where nothing that the law and all that it calls make is longer than what came in: it says more and counts as full. Else prove '..UptoSaid'. A law counts once. -/
mutual
def uptoBulk {H : Type} : DataW H → Nat
  | .lit (.string bytes) => bytes.length + 1
  | .lit _ => 1
  | .nil => 1
  | .ptr d => uptoBulk d + 1
  | .slice elems spare => uptoBulkAll elems + uptoBulkAll spare + 1
  | .agg parts => uptoBulkAll parts + 1
  | .iface _ d => uptoBulk d + 1
  | .map entries => uptoBulkEntries entries + 1
  | .held _ => 1
def uptoBulkAll {H : Type} : List (DataW H) → Nat
  | [] => 0
  | d :: r => uptoBulk d + uptoBulkAll r
def uptoBulkEntries {H : Type} : List (Lit × DataW H) → Nat
  | [] => 0
  | x :: r => uptoBulkEntry x + uptoBulkEntries r
def uptoBulkEntry {H : Type} : Lit × DataW H → Nat
  | (.string bytes, d) => bytes.length + uptoBulk d + 1
  | (_, d) => uptoBulk d + 1
 end
def uptoSmall : (H : Type) → List (DataW H) → Bool := fun _ ds => decide (uptoBulkAll ds ≤ 1048576)
def OpenSpec.upto (s : _root_.Go.ChangeSpec) : _root_.Go.OpenSpec := { _root_.Go.OpenSpec.ofChange s with cond := some uptoSmall }

/-- 'laws.FnSwapTwice', WHERE WHAT IT READS IS OF BULK AT MOST 1048576: true; the input reads as it did. -/
def fnSwapTwiceUptoRow : OpenClaim := { program := "ytkmimpfpmkpdoaa", sum := "1f37cce8705e71fa0d4a7b3a075641c8fbf99f0efdcf74da3a7a5f616114900f", func := "loop.example/g03220/laws.FnSwapTwice", spec := "fnSwapTwice", inPlace := ["internal/bytealg.IndexByteString", "internal/bytealg.IndexString"], recurses := true, named := ["internal/bytealg.MaxLen"], apart := false, narrowed := true }
def FnSwapTwiceUptoSaid : Prop := fnSwapTwiceUptoRow.holds Try.pinned (OpenSpec.upto fnSwapTwiceSpec)

/-- 'laws.FnExactIsSymbol', WHERE WHAT IT READS IS OF BULK AT MOST 1048576: true; the input reads as it did. -/
def fnExactIsSymbolUptoRow : OpenClaim := { program := "ytkmimpfpmkpdoaa", sum := "1f37cce8705e71fa0d4a7b3a075641c8fbf99f0efdcf74da3a7a5f616114900f", func := "loop.example/g03220/laws.FnExactIsSymbol", spec := "fnExactIsSymbol", inPlace := ["internal/bytealg.IndexByteString", "internal/bytealg.IndexString"], named := ["internal/bytealg.MaxLen"], apart := false, narrowed := true }
def FnExactIsSymbolUptoSaid : Prop := fnExactIsSymbolUptoRow.holds Try.pinned (OpenSpec.upto fnExactIsSymbolSpec)

/-- 'laws.FnExactSymbolDatum', WHERE WHAT IT READS IS OF BULK AT MOST 1048576: true; the input reads as it did. -/
def fnExactSymbolDatumUptoRow : OpenClaim := { program := "ytkmimpfpmkpdoaa", sum := "1f37cce8705e71fa0d4a7b3a075641c8fbf99f0efdcf74da3a7a5f616114900f", func := "loop.example/g03220/laws.FnExactSymbolDatum", spec := "fnExactSymbolDatum", inPlace := ["internal/bytealg.IndexByteString", "internal/bytealg.IndexString"], recurses := true, named := ["internal/bytealg.MaxLen"], apart := false, narrowed := true }
def FnExactSymbolDatumUptoSaid : Prop := fnExactSymbolDatumUptoRow.holds Try.pinned (OpenSpec.upto fnExactSymbolDatumSpec)

/-- 'laws.FnExactNumberDatum', WHERE WHAT IT READS IS OF BULK AT MOST 1048576: true; the input reads as it did. -/
def fnExactNumberDatumUptoRow : OpenClaim := { program := "ytkmimpfpmkpdoaa", sum := "1f37cce8705e71fa0d4a7b3a075641c8fbf99f0efdcf74da3a7a5f616114900f", func := "loop.example/g03220/laws.FnExactNumberDatum", spec := "fnExactNumberDatum", inPlace := ["internal/bytealg.IndexByteString", "internal/bytealg.IndexString"], recurses := true, named := ["internal/bytealg.MaxLen"], apart := false, narrowed := true }
def FnExactNumberDatumUptoSaid : Prop := fnExactNumberDatumUptoRow.holds Try.pinned (OpenSpec.upto fnExactNumberDatumSpec)

/-- 'laws.FnExactBooleanDatum', WHERE WHAT IT READS IS OF BULK AT MOST 1048576: true; the input reads as it did. -/
def fnExactBooleanDatumUptoRow : OpenClaim := { program := "ytkmimpfpmkpdoaa", sum := "1f37cce8705e71fa0d4a7b3a075641c8fbf99f0efdcf74da3a7a5f616114900f", func := "loop.example/g03220/laws.FnExactBooleanDatum", spec := "fnExactBooleanDatum", recurses := true, apart := false, narrowed := true }
def FnExactBooleanDatumUptoSaid : Prop := fnExactBooleanDatumUptoRow.holds Try.pinned (OpenSpec.upto fnExactBooleanDatumSpec)

/-- 'laws.FnExactStringDatum', WHERE WHAT IT READS IS OF BULK AT MOST 1048576: true; the input reads as it did. -/
def fnExactStringDatumUptoRow : OpenClaim := { program := "ytkmimpfpmkpdoaa", sum := "1f37cce8705e71fa0d4a7b3a075641c8fbf99f0efdcf74da3a7a5f616114900f", func := "loop.example/g03220/laws.FnExactStringDatum", spec := "fnExactStringDatum", inPlace := ["internal/bytealg.IndexByteString", "internal/bytealg.IndexString"], recurses := true, named := ["internal/bytealg.MaxLen"], apart := false, narrowed := true }
def FnExactStringDatumUptoSaid : Prop := fnExactStringDatumUptoRow.holds Try.pinned (OpenSpec.upto fnExactStringDatumSpec)

/-- 'laws.FnExactListDatum', WHERE WHAT IT READS IS OF BULK AT MOST 1048576: true; the input reads as it did. -/
def fnExactListDatumUptoRow : OpenClaim := { program := "ytkmimpfpmkpdoaa", sum := "1f37cce8705e71fa0d4a7b3a075641c8fbf99f0efdcf74da3a7a5f616114900f", func := "loop.example/g03220/laws.FnExactListDatum", spec := "fnExactListDatum", recurses := true, loops := true, apart := false, narrowed := true }
def FnExactListDatumUptoSaid : Prop := fnExactListDatumUptoRow.holds Try.pinned (OpenSpec.upto fnExactListDatumSpec)

/-- 'laws.FnExactCountNodes', WHERE WHAT IT READS IS OF BULK AT MOST 1048576: true; the input reads as it did. -/
def fnExactCountNodesUptoRow : OpenClaim := { program := "ytkmimpfpmkpdoaa", sum := "1f37cce8705e71fa0d4a7b3a075641c8fbf99f0efdcf74da3a7a5f616114900f", func := "loop.example/g03220/laws.FnExactCountNodes", spec := "fnExactCountNodes", recurses := true, loops := true, apart := false, narrowed := true }
def FnExactCountNodesUptoSaid : Prop := fnExactCountNodesUptoRow.holds Try.pinned (OpenSpec.upto fnExactCountNodesSpec)

/-- 'laws.FnExactDepthOf', WHERE WHAT IT READS IS OF BULK AT MOST 1048576: true; the input reads as it did. -/
def fnExactDepthOfUptoRow : OpenClaim := { program := "ytkmimpfpmkpdoaa", sum := "1f37cce8705e71fa0d4a7b3a075641c8fbf99f0efdcf74da3a7a5f616114900f", func := "loop.example/g03220/laws.FnExactDepthOf", spec := "fnExactDepthOf", recurses := true, loops := true, apart := false, narrowed := true }
def FnExactDepthOfUptoSaid : Prop := fnExactDepthOfUptoRow.holds Try.pinned (OpenSpec.upto fnExactDepthOfSpec)

/-- 'laws.FnExactEqualData', WHERE WHAT IT READS IS OF BULK AT MOST 1048576: true; the input reads as it did. -/
def fnExactEqualDataUptoRow : OpenClaim := { program := "ytkmimpfpmkpdoaa", sum := "1f37cce8705e71fa0d4a7b3a075641c8fbf99f0efdcf74da3a7a5f616114900f", func := "loop.example/g03220/laws.FnExactEqualData", spec := "fnExactEqualData", recurses := true, loops := true, apart := false, narrowed := true }
def FnExactEqualDataUptoSaid : Prop := fnExactEqualDataUptoRow.holds Try.pinned (OpenSpec.upto fnExactEqualDataSpec)

/-- 'laws.FnExactIsDatum', WHERE WHAT IT READS IS OF BULK AT MOST 1048576: true; the input reads as it did. -/
def fnExactIsDatumUptoRow : OpenClaim := { program := "ytkmimpfpmkpdoaa", sum := "1f37cce8705e71fa0d4a7b3a075641c8fbf99f0efdcf74da3a7a5f616114900f", func := "loop.example/g03220/laws.FnExactIsDatum", spec := "fnExactIsDatum", inPlace := ["internal/bytealg.IndexByteString", "internal/bytealg.IndexString"], recurses := true, named := ["internal/bytealg.MaxLen"], loops := true, apart := false, narrowed := true }
def FnExactIsDatumUptoSaid : Prop := fnExactIsDatumUptoRow.holds Try.pinned (OpenSpec.upto fnExactIsDatumSpec)

/-- 'laws.FnExactAreData', WHERE WHAT IT READS IS OF BULK AT MOST 1048576: true; the input reads as it did. -/
def fnExactAreDataUptoRow : OpenClaim := { program := "ytkmimpfpmkpdoaa", sum := "1f37cce8705e71fa0d4a7b3a075641c8fbf99f0efdcf74da3a7a5f616114900f", func := "loop.example/g03220/laws.FnExactAreData", spec := "fnExactAreData", inPlace := ["internal/bytealg.IndexByteString", "internal/bytealg.IndexString"], recurses := true, named := ["internal/bytealg.MaxLen"], loops := true, apart := false, narrowed := true }
def FnExactAreDataUptoSaid : Prop := fnExactAreDataUptoRow.holds Try.pinned (OpenSpec.upto fnExactAreDataSpec)

/-- 'laws.FnExactSwapSymbols', WHERE WHAT IT READS IS OF BULK AT MOST 1048576: true; the input reads as it did. -/
def fnExactSwapSymbolsUptoRow : OpenClaim := { program := "ytkmimpfpmkpdoaa", sum := "1f37cce8705e71fa0d4a7b3a075641c8fbf99f0efdcf74da3a7a5f616114900f", func := "loop.example/g03220/laws.FnExactSwapSymbols", spec := "fnExactSwapSymbols", inPlace := ["internal/bytealg.IndexByteString", "internal/bytealg.IndexString"], recurses := true, named := ["internal/bytealg.MaxLen"], loops := true, apart := false, narrowed := true }
def FnExactSwapSymbolsUptoSaid : Prop := fnExactSwapSymbolsUptoRow.holds Try.pinned (OpenSpec.upto fnExactSwapSymbolsSpec)

/-- 'laws.FnExactSymbolsOf', WHERE WHAT IT READS IS OF BULK AT MOST 1048576: true; the input reads as it did. -/
def fnExactSymbolsOfUptoRow : OpenClaim := { program := "ytkmimpfpmkpdoaa", sum := "1f37cce8705e71fa0d4a7b3a075641c8fbf99f0efdcf74da3a7a5f616114900f", func := "loop.example/g03220/laws.FnExactSymbolsOf", spec := "fnExactSymbolsOf", inPlace := ["internal/bytealg.IndexByteString", "internal/bytealg.IndexString"], recurses := true, named := ["internal/bytealg.MaxLen"], loops := true, apart := false, narrowed := true }
def FnExactSymbolsOfUptoSaid : Prop := fnExactSymbolsOfUptoRow.holds Try.pinned (OpenSpec.upto fnExactSymbolsOfSpec)

end Rows
end Go.Proofs.Ytkmimpfpmkpdoaa
