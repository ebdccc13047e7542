/-
  NARROWER THAN 'FOR EVERY INPUT', by the rows' own cells (each row's printed sentence says how): FnExactGlobalsOf: loops · FnExactFindExport: loops · FnExactUnitFits: loops · FnExactTemplateFits: loops.
  DERIVED. THE GIVEN ROWS OF THIS SEAT. 6 by the template 'for every input the law returns true; each argument reads behind the call as it read before'; 0 by the template 'total and deterministic' (their statements: YtndckeodpoommaaTotals.lean).
  GIVEN WITH THE SEED: the statements are not yours to turn. If you find one false, say at which input.
  Laid BY PROGRAM, IN A SANDBOX (cutbox-rows.mjs): the forced cells as the released guide's own fill.sh prints them over the translation 1280efe1a5d5ed66… (all of the seat's roots in one cut). By AI agents, Wed Nov 11 2026. No macro, syntax, notation, axiom, sorry.
-/
import Derived.Test.YtndckeodpoommaaChecked
import GoSem.Claim
import GoSem.ClaimJoined
import GoSem.ClaimMapViews
import Derived.JoinedTies
import Derived.KernelRfl
namespace Go.Proofs.Ytndckeodpoommaa
/- THE CELL 'sum', in the pinned program and in every row, IS THE sha256 OF THE DUMP (.gsa) THAT YtndckeodpoommaaProg.lean LOADS. Nothing in Lean hashes anything: it is a label: what it is worth is what the hold of that sum in a sandbox is worth. -/
noncomputable def Try.pinned : Pinned := { name := "ytndckeodpoommaa", sum := "1280efe1a5d5ed66411eae4bee922c5206691c930aeef856b849165f0526c912", checked := Try.checked }
namespace Rows
def none {H : Type} : Left H := { results := [], args := [] }

/-- 'laws.FnExactBaseSource': WHATEVER THE INPUT: true; the input reads as it did. -/
def fnExactBaseSourceSpec : ChangeSpec := { name := "fnExactBaseSource", fn := fun _ => fun
  | [] => { results := [.lit (.bool true)], args := [] }
  | _ => none }
def fnExactBaseSourceRow : OpenClaim := { program := "ytndckeodpoommaa", sum := "1280efe1a5d5ed66411eae4bee922c5206691c930aeef856b849165f0526c912", func := "loop.example/g03220/laws.FnExactBaseSource", spec := "fnExactBaseSource", apart := false }
def FnExactBaseSourceSaid : Prop := fnExactBaseSourceRow.holds Try.pinned (OpenSpec.ofChange fnExactBaseSourceSpec)

/-- ITS FALSE NEIGHBOUR: 'it returns false'. Refute it at one input. -/
def fnExactBaseSourceWrong : ChangeSpec := { name := "fnExactBaseSource", fn := fun _ => fun
  | [] => { results := [.lit (.bool false)], args := [] }
  | _ => none }
def FnExactBaseSourceWrongFalsely : Prop := fnExactBaseSourceRow.holds Try.pinned (OpenSpec.ofChange fnExactBaseSourceWrong)

/-- 'laws.FnExactProblemText': WHATEVER THE INPUT: true; the input reads as it did. -/
def fnExactProblemTextSpec : ChangeSpec := { name := "fnExactProblemText", fn := fun _ => fun
  | [d] => { results := [.lit (.bool true)], args := [d] }
  | _ => none }
def fnExactProblemTextRow : OpenClaim := { program := "ytndckeodpoommaa", sum := "1280efe1a5d5ed66411eae4bee922c5206691c930aeef856b849165f0526c912", func := "loop.example/g03220/laws.FnExactProblemText", spec := "fnExactProblemText", apart := false }
def FnExactProblemTextSaid : Prop := fnExactProblemTextRow.holds Try.pinned (OpenSpec.ofChange fnExactProblemTextSpec)

/-- ITS FALSE NEIGHBOUR: 'it returns false'. Refute it at one input. -/
def fnExactProblemTextWrong : ChangeSpec := { name := "fnExactProblemText", fn := fun _ => fun
  | [d] => { results := [.lit (.bool false)], args := [d] }
  | _ => none }
def FnExactProblemTextWrongFalsely : Prop := fnExactProblemTextRow.holds Try.pinned (OpenSpec.ofChange fnExactProblemTextWrong)

/-- 'laws.FnExactGlobalsOf': WHATEVER THE INPUT: true; the input reads as it did. -/
def fnExactGlobalsOfSpec : ChangeSpec := { name := "fnExactGlobalsOf", fn := fun _ => fun
  | [d] => { results := [.lit (.bool true)], args := [d] }
  | _ => none }
def fnExactGlobalsOfRow : OpenClaim := { program := "ytndckeodpoommaa", sum := "1280efe1a5d5ed66411eae4bee922c5206691c930aeef856b849165f0526c912", func := "loop.example/g03220/laws.FnExactGlobalsOf", spec := "fnExactGlobalsOf", recurses := true, loops := true, apart := false }
def FnExactGlobalsOfSaid : Prop := fnExactGlobalsOfRow.holds Try.pinned (OpenSpec.ofChange fnExactGlobalsOfSpec)

/-- ITS FALSE NEIGHBOUR: 'it returns false'. Refute it at one input. -/
def fnExactGlobalsOfWrong : ChangeSpec := { name := "fnExactGlobalsOf", fn := fun _ => fun
  | [d] => { results := [.lit (.bool false)], args := [d] }
  | _ => none }
def FnExactGlobalsOfWrongFalsely : Prop := fnExactGlobalsOfRow.holds Try.pinned (OpenSpec.ofChange fnExactGlobalsOfWrong)

/-- 'laws.FnExactFindExport': WHATEVER THE INPUT: true; the input reads as it did. -/
def fnExactFindExportSpec : ChangeSpec := { name := "fnExactFindExport", fn := fun _ => fun
  | [d1, d2, d3] => { results := [.lit (.bool true)], args := [d1, d2, d3] }
  | _ => none }
def fnExactFindExportRow : OpenClaim := { program := "ytndckeodpoommaa", sum := "1280efe1a5d5ed66411eae4bee922c5206691c930aeef856b849165f0526c912", func := "loop.example/g03220/laws.FnExactFindExport", spec := "fnExactFindExport", recurses := true, loops := true, apart := false }
def FnExactFindExportSaid : Prop := fnExactFindExportRow.holds Try.pinned (OpenSpec.ofChange fnExactFindExportSpec)

/-- ITS FALSE NEIGHBOUR: 'it returns false'. Refute it at one input. -/
def fnExactFindExportWrong : ChangeSpec := { name := "fnExactFindExport", fn := fun _ => fun
  | [d1, d2, d3] => { results := [.lit (.bool false)], args := [d1, d2, d3] }
  | _ => none }
def FnExactFindExportWrongFalsely : Prop := fnExactFindExportRow.holds Try.pinned (OpenSpec.ofChange fnExactFindExportWrong)

/-- 'laws.FnExactUnitFits': WHATEVER THE INPUT: true; the input reads as it did. -/
def fnExactUnitFitsSpec : ChangeSpec := { name := "fnExactUnitFits", fn := fun _ => fun
  | [d1, d2] => { results := [.lit (.bool true)], args := [d1, d2] }
  | _ => none }
def fnExactUnitFitsRow : OpenClaim := { program := "ytndckeodpoommaa", sum := "1280efe1a5d5ed66411eae4bee922c5206691c930aeef856b849165f0526c912", func := "loop.example/g03220/laws.FnExactUnitFits", spec := "fnExactUnitFits", inPlace := ["internal/bytealg.IndexByteString", "internal/bytealg.IndexString"], unfollowed := true, recurses := true, named := ["internal/bytealg.MaxLen"], loops := true, apart := false }
def FnExactUnitFitsSaid : Prop := fnExactUnitFitsRow.holds Try.pinned (OpenSpec.ofChange fnExactUnitFitsSpec)

/-- ITS FALSE NEIGHBOUR: 'it returns false'. Refute it at one input. -/
def fnExactUnitFitsWrong : ChangeSpec := { name := "fnExactUnitFits", fn := fun _ => fun
  | [d1, d2] => { results := [.lit (.bool false)], args := [d1, d2] }
  | _ => none }
def FnExactUnitFitsWrongFalsely : Prop := fnExactUnitFitsRow.holds Try.pinned (OpenSpec.ofChange fnExactUnitFitsWrong)

/-- 'laws.FnExactTemplateFits': WHATEVER THE INPUT: true; the input reads as it did. -/
def fnExactTemplateFitsSpec : ChangeSpec := { name := "fnExactTemplateFits", fn := fun _ => fun
  | [d1, d2] => { results := [.lit (.bool true)], args := [d1, d2] }
  | _ => none }
def fnExactTemplateFitsRow : OpenClaim := { program := "ytndckeodpoommaa", sum := "1280efe1a5d5ed66411eae4bee922c5206691c930aeef856b849165f0526c912", func := "loop.example/g03220/laws.FnExactTemplateFits", spec := "fnExactTemplateFits", inPlace := ["internal/bytealg.IndexByteString", "internal/bytealg.IndexString"], unfollowed := true, recurses := true, named := ["internal/bytealg.MaxLen"], loops := true, apart := false }
def FnExactTemplateFitsSaid : Prop := fnExactTemplateFitsRow.holds Try.pinned (OpenSpec.ofChange fnExactTemplateFitsSpec)

/-- ITS FALSE NEIGHBOUR: 'it returns false'. Refute it at one input. -/
def fnExactTemplateFitsWrong : ChangeSpec := { name := "fnExactTemplateFits", fn := fun _ => fun
  | [d1, d2] => { results := [.lit (.bool false)], args := [d1, d2] }
  | _ => none }
def FnExactTemplateFitsWrongFalsely : Prop := fnExactTemplateFitsRow.holds Try.pinned (OpenSpec.ofChange fnExactTemplateFitsWrong)

/- THE SECOND FORM. 'bulk': how many values and letters a reading holds, each counted each time it is reached (what is shared counts as often as it is met; a slice's spare places count too). A statement '..UptoSaid' is the law's where the arguments, and the package variables that the reading takes, are together of bulk at most 1048576: NARROWER than '..Said'. Prove '..Said' where nothing that the law and all that it calls make is longer than what came in: it says more and counts as full. Else prove '..UptoSaid'. A law counts once. -/
mutual
def uptoBulk {H : Type} : DataW H → Nat
  | .lit (.string bytes) => bytes.length + 1
  | .lit _ => 1
  | .nil => 1
  | .ptr d => uptoBulk d + 1
  | .slice elems spare => uptoBulkAll elems + uptoBulkAll spare + 1
  | .agg parts => uptoBulkAll parts + 1
  | .iface _ d => uptoBulk d + 1
  | .map entries => uptoBulkEntries entries + 1
  | .held _ => 1
def uptoBulkAll {H : Type} : List (DataW H) → Nat
  | [] => 0
  | d :: r => uptoBulk d + uptoBulkAll r
def uptoBulkEntries {H : Type} : List (Lit × DataW H) → Nat
  | [] => 0
  | x :: r => uptoBulkEntry x + uptoBulkEntries r
def uptoBulkEntry {H : Type} : Lit × DataW H → Nat
  | (.string bytes, d) => bytes.length + uptoBulk d + 1
  | (_, d) => uptoBulk d + 1
 end
def uptoSmall : (H : Type) → List (DataW H) → Bool := fun _ ds => decide (uptoBulkAll ds ≤ 1048576)
def OpenSpec.upto (s : _root_.Go.ChangeSpec) : _root_.Go.OpenSpec := { _root_.Go.OpenSpec.ofChange s with cond := some uptoSmall }

/-- 'laws.FnExactBaseSource', WHERE WHAT IT READS IS OF BULK AT MOST 1048576: true; the input reads as it did. -/
def fnExactBaseSourceUptoRow : OpenClaim := { program := "ytndckeodpoommaa", sum := "1280efe1a5d5ed66411eae4bee922c5206691c930aeef856b849165f0526c912", func := "loop.example/g03220/laws.FnExactBaseSource", spec := "fnExactBaseSource", apart := false, narrowed := true }
def FnExactBaseSourceUptoSaid : Prop := fnExactBaseSourceUptoRow.holds Try.pinned (OpenSpec.upto fnExactBaseSourceSpec)

/-- 'laws.FnExactProblemText', WHERE WHAT IT READS IS OF BULK AT MOST 1048576: true; the input reads as it did. -/
def fnExactProblemTextUptoRow : OpenClaim := { program := "ytndckeodpoommaa", sum := "1280efe1a5d5ed66411eae4bee922c5206691c930aeef856b849165f0526c912", func := "loop.example/g03220/laws.FnExactProblemText", spec := "fnExactProblemText", apart := false, narrowed := true }
def FnExactProblemTextUptoSaid : Prop := fnExactProblemTextUptoRow.holds Try.pinned (OpenSpec.upto fnExactProblemTextSpec)

/-- 'laws.FnExactGlobalsOf', WHERE WHAT IT READS IS OF BULK AT MOST 1048576: true; the input reads as it did. -/
def fnExactGlobalsOfUptoRow : OpenClaim := { program := "ytndckeodpoommaa", sum := "1280efe1a5d5ed66411eae4bee922c5206691c930aeef856b849165f0526c912", func := "loop.example/g03220/laws.FnExactGlobalsOf", spec := "fnExactGlobalsOf", recurses := true, loops := true, apart := false, narrowed := true }
def FnExactGlobalsOfUptoSaid : Prop := fnExactGlobalsOfUptoRow.holds Try.pinned (OpenSpec.upto fnExactGlobalsOfSpec)

/-- 'laws.FnExactFindExport', WHERE WHAT IT READS IS OF BULK AT MOST 1048576: true; the input reads as it did. -/
def fnExactFindExportUptoRow : OpenClaim := { program := "ytndckeodpoommaa", sum := "1280efe1a5d5ed66411eae4bee922c5206691c930aeef856b849165f0526c912", func := "loop.example/g03220/laws.FnExactFindExport", spec := "fnExactFindExport", recurses := true, loops := true, apart := false, narrowed := true }
def FnExactFindExportUptoSaid : Prop := fnExactFindExportUptoRow.holds Try.pinned (OpenSpec.upto fnExactFindExportSpec)

/-- 'laws.FnExactUnitFits', WHERE WHAT IT READS IS OF BULK AT MOST 1048576: true; the input reads as it did. -/
def fnExactUnitFitsUptoRow : OpenClaim := { program := "ytndckeodpoommaa", sum := "1280efe1a5d5ed66411eae4bee922c5206691c930aeef856b849165f0526c912", func := "loop.example/g03220/laws.FnExactUnitFits", spec := "fnExactUnitFits", inPlace := ["internal/bytealg.IndexByteString", "internal/bytealg.IndexString"], unfollowed := true, recurses := true, named := ["internal/bytealg.MaxLen"], loops := true, apart := false, narrowed := true }
def FnExactUnitFitsUptoSaid : Prop := fnExactUnitFitsUptoRow.holds Try.pinned (OpenSpec.upto fnExactUnitFitsSpec)

/-- 'laws.FnExactTemplateFits', WHERE WHAT IT READS IS OF BULK AT MOST 1048576: true; the input reads as it did. -/
def fnExactTemplateFitsUptoRow : OpenClaim := { program := "ytndckeodpoommaa", sum := "1280efe1a5d5ed66411eae4bee922c5206691c930aeef856b849165f0526c912", func := "loop.example/g03220/laws.FnExactTemplateFits", spec := "fnExactTemplateFits", inPlace := ["internal/bytealg.IndexByteString", "internal/bytealg.IndexString"], unfollowed := true, recurses := true, named := ["internal/bytealg.MaxLen"], loops := true, apart := false, narrowed := true }
def FnExactTemplateFitsUptoSaid : Prop := fnExactTemplateFitsUptoRow.holds Try.pinned (OpenSpec.upto fnExactTemplateFitsSpec)

end Rows
end Go.Proofs.Ytndckeodpoommaa
