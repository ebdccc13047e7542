/-
  NARROWER THAN 'FOR EVERY INPUT', by the rows' own cells (each row's printed sentence says how): FnExactSwapSymbols: loops · FnExactSymbolsOf: loops · FnExactCountSyntax: loops · FnExactIsSyntax: loops · FnExactSyntaxOf: loops · FnExactDatumOf: loops · FnExactEqualSyntax: loops · FnExactAddScope: loops · FnExactFlipScope: loops · FnExactStripUses: loops · FnExactIsIdentifier: loops · FnExactSameIdentifier: loops · FnExactIdentifiersIn: loops.
  DERIVED. THE GIVEN ROWS OF THIS SEAT. 22 by the template 'for every input the law returns true; each argument reads behind the call as it read before'; 0 by the template 'total and deterministic' (their statements: YtknplopghgchaaaTotals.lean).
  GIVEN WITH THE SEED: the statements are not yours to turn. If you find one false, say at which input.
  Laid BY PROGRAM, IN A SANDBOX (cutbox-rows.mjs): the forced cells as the released guide's own fill.sh prints them over the translation ecca799faa1f0630… (all of the seat's roots in one cut). By AI agents, Wed Nov 11 2026. No macro, syntax, notation, axiom, sorry.
-/
import Derived.Test.YtknplopghgchaaaChecked
import GoSem.Claim
import GoSem.ClaimJoined
import GoSem.ClaimMapViews
import Derived.JoinedTies
import Derived.KernelRfl
namespace Go.Proofs.Ytknplopghgchaaa
/- THE CELL 'sum', in the pinned program and in every row, IS THE sha256 OF THE DUMP (.gsa) THAT YtknplopghgchaaaProg.lean LOADS. Nothing in Lean hashes anything: it is a label: what it is worth is what the hold of that sum in a sandbox is worth. -/
noncomputable def Try.pinned : Pinned := { name := "ytknplopghgchaaa", sum := "ecca799faa1f0630b40e58158b93bcf9e30d9b3172bba1d6c3612b34417f0fbe", checked := Try.checked }
namespace Rows
def none {H : Type} : Left H := { results := [], args := [] }

/-- 'laws.FnSwapTwice': WHATEVER THE INPUT: true; the input reads as it did. -/
def fnSwapTwiceSpec : ChangeSpec := { name := "fnSwapTwice", fn := fun _ => fun
  | [d] => { results := [.lit (.bool true)], args := [d] }
  | _ => none }
def fnSwapTwiceRow : OpenClaim := { program := "ytknplopghgchaaa", sum := "ecca799faa1f0630b40e58158b93bcf9e30d9b3172bba1d6c3612b34417f0fbe", func := "loop.example/g03220/laws.FnSwapTwice", spec := "fnSwapTwice", inPlace := ["internal/bytealg.IndexByteString", "internal/bytealg.IndexString"], recurses := true, named := ["internal/bytealg.MaxLen"], apart := false }
def FnSwapTwiceSaid : Prop := fnSwapTwiceRow.holds Try.pinned (OpenSpec.ofChange fnSwapTwiceSpec)

/-- ITS FALSE NEIGHBOUR: 'it returns false'. Refute it at one input. -/
def fnSwapTwiceWrong : ChangeSpec := { name := "fnSwapTwice", fn := fun _ => fun
  | [d] => { results := [.lit (.bool false)], args := [d] }
  | _ => none }
def FnSwapTwiceWrongFalsely : Prop := fnSwapTwiceRow.holds Try.pinned (OpenSpec.ofChange fnSwapTwiceWrong)

/-- 'laws.FnScopeSets': WHATEVER THE INPUT: true; the input reads as it did. -/
def fnScopeSetsSpec : ChangeSpec := { name := "fnScopeSets", fn := fun _ => fun
  | [d] => { results := [.lit (.bool true)], args := [d] }
  | _ => none }
def fnScopeSetsRow : OpenClaim := { program := "ytknplopghgchaaa", sum := "ecca799faa1f0630b40e58158b93bcf9e30d9b3172bba1d6c3612b34417f0fbe", func := "loop.example/g03220/laws.FnScopeSets", spec := "fnScopeSets", apart := false }
def FnScopeSetsSaid : Prop := fnScopeSetsRow.holds Try.pinned (OpenSpec.ofChange fnScopeSetsSpec)

/-- ITS FALSE NEIGHBOUR: 'it returns false'. Refute it at one input. -/
def fnScopeSetsWrong : ChangeSpec := { name := "fnScopeSets", fn := fun _ => fun
  | [d] => { results := [.lit (.bool false)], args := [d] }
  | _ => none }
def FnScopeSetsWrongFalsely : Prop := fnScopeSetsRow.holds Try.pinned (OpenSpec.ofChange fnScopeSetsWrong)

/-- 'laws.FnExactSwapSymbols': WHATEVER THE INPUT: true; the input reads as it did. -/
def fnExactSwapSymbolsSpec : ChangeSpec := { name := "fnExactSwapSymbols", fn := fun _ => fun
  | [d1, d2, d3] => { results := [.lit (.bool true)], args := [d1, d2, d3] }
  | _ => none }
def fnExactSwapSymbolsRow : OpenClaim := { program := "ytknplopghgchaaa", sum := "ecca799faa1f0630b40e58158b93bcf9e30d9b3172bba1d6c3612b34417f0fbe", func := "loop.example/g03220/laws.FnExactSwapSymbols", spec := "fnExactSwapSymbols", inPlace := ["internal/bytealg.IndexByteString", "internal/bytealg.IndexString"], recurses := true, named := ["internal/bytealg.MaxLen"], loops := true, apart := false }
def FnExactSwapSymbolsSaid : Prop := fnExactSwapSymbolsRow.holds Try.pinned (OpenSpec.ofChange fnExactSwapSymbolsSpec)

/-- ITS FALSE NEIGHBOUR: 'it returns false'. Refute it at one input. -/
def fnExactSwapSymbolsWrong : ChangeSpec := { name := "fnExactSwapSymbols", fn := fun _ => fun
  | [d1, d2, d3] => { results := [.lit (.bool false)], args := [d1, d2, d3] }
  | _ => none }
def FnExactSwapSymbolsWrongFalsely : Prop := fnExactSwapSymbolsRow.holds Try.pinned (OpenSpec.ofChange fnExactSwapSymbolsWrong)

/-- 'laws.FnExactSymbolsOf': WHATEVER THE INPUT: true; the input reads as it did. -/
def fnExactSymbolsOfSpec : ChangeSpec := { name := "fnExactSymbolsOf", fn := fun _ => fun
  | [d] => { results := [.lit (.bool true)], args := [d] }
  | _ => none }
def fnExactSymbolsOfRow : OpenClaim := { program := "ytknplopghgchaaa", sum := "ecca799faa1f0630b40e58158b93bcf9e30d9b3172bba1d6c3612b34417f0fbe", func := "loop.example/g03220/laws.FnExactSymbolsOf", spec := "fnExactSymbolsOf", inPlace := ["internal/bytealg.IndexByteString", "internal/bytealg.IndexString"], recurses := true, named := ["internal/bytealg.MaxLen"], loops := true, apart := false }
def FnExactSymbolsOfSaid : Prop := fnExactSymbolsOfRow.holds Try.pinned (OpenSpec.ofChange fnExactSymbolsOfSpec)

/-- ITS FALSE NEIGHBOUR: 'it returns false'. Refute it at one input. -/
def fnExactSymbolsOfWrong : ChangeSpec := { name := "fnExactSymbolsOf", fn := fun _ => fun
  | [d] => { results := [.lit (.bool false)], args := [d] }
  | _ => none }
def FnExactSymbolsOfWrongFalsely : Prop := fnExactSymbolsOfRow.holds Try.pinned (OpenSpec.ofChange fnExactSymbolsOfWrong)

/-- 'laws.FnExactKindOfScope': WHATEVER THE INPUT: true; the input reads as it did. -/
def fnExactKindOfScopeSpec : ChangeSpec := { name := "fnExactKindOfScope", fn := fun _ => fun
  | [d] => { results := [.lit (.bool true)], args := [d] }
  | _ => none }
def fnExactKindOfScopeRow : OpenClaim := { program := "ytknplopghgchaaa", sum := "ecca799faa1f0630b40e58158b93bcf9e30d9b3172bba1d6c3612b34417f0fbe", func := "loop.example/g03220/laws.FnExactKindOfScope", spec := "fnExactKindOfScope", apart := false }
def FnExactKindOfScopeSaid : Prop := fnExactKindOfScopeRow.holds Try.pinned (OpenSpec.ofChange fnExactKindOfScopeSpec)

/-- ITS FALSE NEIGHBOUR: 'it returns false'. Refute it at one input. -/
def fnExactKindOfScopeWrong : ChangeSpec := { name := "fnExactKindOfScope", fn := fun _ => fun
  | [d] => { results := [.lit (.bool false)], args := [d] }
  | _ => none }
def FnExactKindOfScopeWrongFalsely : Prop := fnExactKindOfScopeRow.holds Try.pinned (OpenSpec.ofChange fnExactKindOfScopeWrong)

/-- 'laws.FnExactIsScopeSet': WHATEVER THE INPUT: true; the input reads as it did. -/
def fnExactIsScopeSetSpec : ChangeSpec := { name := "fnExactIsScopeSet", fn := fun _ => fun
  | [d] => { results := [.lit (.bool true)], args := [d] }
  | _ => none }
def fnExactIsScopeSetRow : OpenClaim := { program := "ytknplopghgchaaa", sum := "ecca799faa1f0630b40e58158b93bcf9e30d9b3172bba1d6c3612b34417f0fbe", func := "loop.example/g03220/laws.FnExactIsScopeSet", spec := "fnExactIsScopeSet", apart := false }
def FnExactIsScopeSetSaid : Prop := fnExactIsScopeSetRow.holds Try.pinned (OpenSpec.ofChange fnExactIsScopeSetSpec)

/-- ITS FALSE NEIGHBOUR: 'it returns false'. Refute it at one input. -/
def fnExactIsScopeSetWrong : ChangeSpec := { name := "fnExactIsScopeSet", fn := fun _ => fun
  | [d] => { results := [.lit (.bool false)], args := [d] }
  | _ => none }
def FnExactIsScopeSetWrongFalsely : Prop := fnExactIsScopeSetRow.holds Try.pinned (OpenSpec.ofChange fnExactIsScopeSetWrong)

/-- 'laws.FnExactHasScope': WHATEVER THE INPUT: true; the input reads as it did. -/
def fnExactHasScopeSpec : ChangeSpec := { name := "fnExactHasScope", fn := fun _ => fun
  | [d1, d2] => { results := [.lit (.bool true)], args := [d1, d2] }
  | _ => none }
def fnExactHasScopeRow : OpenClaim := { program := "ytknplopghgchaaa", sum := "ecca799faa1f0630b40e58158b93bcf9e30d9b3172bba1d6c3612b34417f0fbe", func := "loop.example/g03220/laws.FnExactHasScope", spec := "fnExactHasScope", apart := false }
def FnExactHasScopeSaid : Prop := fnExactHasScopeRow.holds Try.pinned (OpenSpec.ofChange fnExactHasScopeSpec)

/-- ITS FALSE NEIGHBOUR: 'it returns false'. Refute it at one input. -/
def fnExactHasScopeWrong : ChangeSpec := { name := "fnExactHasScope", fn := fun _ => fun
  | [d1, d2] => { results := [.lit (.bool false)], args := [d1, d2] }
  | _ => none }
def FnExactHasScopeWrongFalsely : Prop := fnExactHasScopeRow.holds Try.pinned (OpenSpec.ofChange fnExactHasScopeWrong)

/-- 'laws.FnExactWithScope': WHATEVER THE INPUT: true; the input reads as it did. -/
def fnExactWithScopeSpec : ChangeSpec := { name := "fnExactWithScope", fn := fun _ => fun
  | [d1, d2] => { results := [.lit (.bool true)], args := [d1, d2] }
  | _ => none }
def fnExactWithScopeRow : OpenClaim := { program := "ytknplopghgchaaa", sum := "ecca799faa1f0630b40e58158b93bcf9e30d9b3172bba1d6c3612b34417f0fbe", func := "loop.example/g03220/laws.FnExactWithScope", spec := "fnExactWithScope", apart := false }
def FnExactWithScopeSaid : Prop := fnExactWithScopeRow.holds Try.pinned (OpenSpec.ofChange fnExactWithScopeSpec)

/-- ITS FALSE NEIGHBOUR: 'it returns false'. Refute it at one input. -/
def fnExactWithScopeWrong : ChangeSpec := { name := "fnExactWithScope", fn := fun _ => fun
  | [d1, d2] => { results := [.lit (.bool false)], args := [d1, d2] }
  | _ => none }
def FnExactWithScopeWrongFalsely : Prop := fnExactWithScopeRow.holds Try.pinned (OpenSpec.ofChange fnExactWithScopeWrong)

/-- 'laws.FnExactFlippedScope': WHATEVER THE INPUT: true; the input reads as it did. -/
def fnExactFlippedScopeSpec : ChangeSpec := { name := "fnExactFlippedScope", fn := fun _ => fun
  | [d1, d2] => { results := [.lit (.bool true)], args := [d1, d2] }
  | _ => none }
def fnExactFlippedScopeRow : OpenClaim := { program := "ytknplopghgchaaa", sum := "ecca799faa1f0630b40e58158b93bcf9e30d9b3172bba1d6c3612b34417f0fbe", func := "loop.example/g03220/laws.FnExactFlippedScope", spec := "fnExactFlippedScope", apart := false }
def FnExactFlippedScopeSaid : Prop := fnExactFlippedScopeRow.holds Try.pinned (OpenSpec.ofChange fnExactFlippedScopeSpec)

/-- ITS FALSE NEIGHBOUR: 'it returns false'. Refute it at one input. -/
def fnExactFlippedScopeWrong : ChangeSpec := { name := "fnExactFlippedScope", fn := fun _ => fun
  | [d1, d2] => { results := [.lit (.bool false)], args := [d1, d2] }
  | _ => none }
def FnExactFlippedScopeWrongFalsely : Prop := fnExactFlippedScopeRow.holds Try.pinned (OpenSpec.ofChange fnExactFlippedScopeWrong)

/-- 'laws.FnExactWithoutUses': WHATEVER THE INPUT: true; the input reads as it did. -/
def fnExactWithoutUsesSpec : ChangeSpec := { name := "fnExactWithoutUses", fn := fun _ => fun
  | [d] => { results := [.lit (.bool true)], args := [d] }
  | _ => none }
def fnExactWithoutUsesRow : OpenClaim := { program := "ytknplopghgchaaa", sum := "ecca799faa1f0630b40e58158b93bcf9e30d9b3172bba1d6c3612b34417f0fbe", func := "loop.example/g03220/laws.FnExactWithoutUses", spec := "fnExactWithoutUses", unfollowed := true, recurses := true, apart := false }
def FnExactWithoutUsesSaid : Prop := fnExactWithoutUsesRow.holds Try.pinned (OpenSpec.ofChange fnExactWithoutUsesSpec)

/-- ITS FALSE NEIGHBOUR: 'it returns false'. Refute it at one input. -/
def fnExactWithoutUsesWrong : ChangeSpec := { name := "fnExactWithoutUses", fn := fun _ => fun
  | [d] => { results := [.lit (.bool false)], args := [d] }
  | _ => none }
def FnExactWithoutUsesWrongFalsely : Prop := fnExactWithoutUsesRow.holds Try.pinned (OpenSpec.ofChange fnExactWithoutUsesWrong)

/-- 'laws.FnExactIsSubset': WHATEVER THE INPUT: true; the input reads as it did. -/
def fnExactIsSubsetSpec : ChangeSpec := { name := "fnExactIsSubset", fn := fun _ => fun
  | [d1, d2] => { results := [.lit (.bool true)], args := [d1, d2] }
  | _ => none }
def fnExactIsSubsetRow : OpenClaim := { program := "ytknplopghgchaaa", sum := "ecca799faa1f0630b40e58158b93bcf9e30d9b3172bba1d6c3612b34417f0fbe", func := "loop.example/g03220/laws.FnExactIsSubset", spec := "fnExactIsSubset", apart := false }
def FnExactIsSubsetSaid : Prop := fnExactIsSubsetRow.holds Try.pinned (OpenSpec.ofChange fnExactIsSubsetSpec)

/-- ITS FALSE NEIGHBOUR: 'it returns false'. Refute it at one input. -/
def fnExactIsSubsetWrong : ChangeSpec := { name := "fnExactIsSubset", fn := fun _ => fun
  | [d1, d2] => { results := [.lit (.bool false)], args := [d1, d2] }
  | _ => none }
def FnExactIsSubsetWrongFalsely : Prop := fnExactIsSubsetRow.holds Try.pinned (OpenSpec.ofChange fnExactIsSubsetWrong)

/-- 'laws.FnExactCountSyntax': WHATEVER THE INPUT: true; the input reads as it did. -/
def fnExactCountSyntaxSpec : ChangeSpec := { name := "fnExactCountSyntax", fn := fun _ => fun
  | [d] => { results := [.lit (.bool true)], args := [d] }
  | _ => none }
def fnExactCountSyntaxRow : OpenClaim := { program := "ytknplopghgchaaa", sum := "ecca799faa1f0630b40e58158b93bcf9e30d9b3172bba1d6c3612b34417f0fbe", func := "loop.example/g03220/laws.FnExactCountSyntax", spec := "fnExactCountSyntax", recurses := true, loops := true, apart := false }
def FnExactCountSyntaxSaid : Prop := fnExactCountSyntaxRow.holds Try.pinned (OpenSpec.ofChange fnExactCountSyntaxSpec)

/-- ITS FALSE NEIGHBOUR: 'it returns false'. Refute it at one input. -/
def fnExactCountSyntaxWrong : ChangeSpec := { name := "fnExactCountSyntax", fn := fun _ => fun
  | [d] => { results := [.lit (.bool false)], args := [d] }
  | _ => none }
def FnExactCountSyntaxWrongFalsely : Prop := fnExactCountSyntaxRow.holds Try.pinned (OpenSpec.ofChange fnExactCountSyntaxWrong)

/-- 'laws.FnExactIsSyntax': WHATEVER THE INPUT: true; the input reads as it did. -/
def fnExactIsSyntaxSpec : ChangeSpec := { name := "fnExactIsSyntax", fn := fun _ => fun
  | [d] => { results := [.lit (.bool true)], args := [d] }
  | _ => none }
def fnExactIsSyntaxRow : OpenClaim := { program := "ytknplopghgchaaa", sum := "ecca799faa1f0630b40e58158b93bcf9e30d9b3172bba1d6c3612b34417f0fbe", func := "loop.example/g03220/laws.FnExactIsSyntax", spec := "fnExactIsSyntax", inPlace := ["internal/bytealg.IndexByteString", "internal/bytealg.IndexString"], recurses := true, named := ["internal/bytealg.MaxLen"], loops := true, apart := false }
def FnExactIsSyntaxSaid : Prop := fnExactIsSyntaxRow.holds Try.pinned (OpenSpec.ofChange fnExactIsSyntaxSpec)

/-- ITS FALSE NEIGHBOUR: 'it returns false'. Refute it at one input. -/
def fnExactIsSyntaxWrong : ChangeSpec := { name := "fnExactIsSyntax", fn := fun _ => fun
  | [d] => { results := [.lit (.bool false)], args := [d] }
  | _ => none }
def FnExactIsSyntaxWrongFalsely : Prop := fnExactIsSyntaxRow.holds Try.pinned (OpenSpec.ofChange fnExactIsSyntaxWrong)

/-- 'laws.FnExactSyntaxOf': WHATEVER THE INPUT: true; the input reads as it did. -/
def fnExactSyntaxOfSpec : ChangeSpec := { name := "fnExactSyntaxOf", fn := fun _ => fun
  | [d] => { results := [.lit (.bool true)], args := [d] }
  | _ => none }
def fnExactSyntaxOfRow : OpenClaim := { program := "ytknplopghgchaaa", sum := "ecca799faa1f0630b40e58158b93bcf9e30d9b3172bba1d6c3612b34417f0fbe", func := "loop.example/g03220/laws.FnExactSyntaxOf", spec := "fnExactSyntaxOf", inPlace := ["internal/bytealg.IndexByteString", "internal/bytealg.IndexString"], unfollowed := true, recurses := true, named := ["internal/bytealg.MaxLen"], loops := true, apart := false }
def FnExactSyntaxOfSaid : Prop := fnExactSyntaxOfRow.holds Try.pinned (OpenSpec.ofChange fnExactSyntaxOfSpec)

/-- ITS FALSE NEIGHBOUR: 'it returns false'. Refute it at one input. -/
def fnExactSyntaxOfWrong : ChangeSpec := { name := "fnExactSyntaxOf", fn := fun _ => fun
  | [d] => { results := [.lit (.bool false)], args := [d] }
  | _ => none }
def FnExactSyntaxOfWrongFalsely : Prop := fnExactSyntaxOfRow.holds Try.pinned (OpenSpec.ofChange fnExactSyntaxOfWrong)

/-- 'laws.FnExactDatumOf': WHATEVER THE INPUT: true; the input reads as it did. -/
def fnExactDatumOfSpec : ChangeSpec := { name := "fnExactDatumOf", fn := fun _ => fun
  | [d] => { results := [.lit (.bool true)], args := [d] }
  | _ => none }
def fnExactDatumOfRow : OpenClaim := { program := "ytknplopghgchaaa", sum := "ecca799faa1f0630b40e58158b93bcf9e30d9b3172bba1d6c3612b34417f0fbe", func := "loop.example/g03220/laws.FnExactDatumOf", spec := "fnExactDatumOf", inPlace := ["internal/bytealg.IndexByteString", "internal/bytealg.IndexString"], unfollowed := true, recurses := true, named := ["internal/bytealg.MaxLen"], loops := true, apart := false }
def FnExactDatumOfSaid : Prop := fnExactDatumOfRow.holds Try.pinned (OpenSpec.ofChange fnExactDatumOfSpec)

/-- ITS FALSE NEIGHBOUR: 'it returns false'. Refute it at one input. -/
def fnExactDatumOfWrong : ChangeSpec := { name := "fnExactDatumOf", fn := fun _ => fun
  | [d] => { results := [.lit (.bool false)], args := [d] }
  | _ => none }
def FnExactDatumOfWrongFalsely : Prop := fnExactDatumOfRow.holds Try.pinned (OpenSpec.ofChange fnExactDatumOfWrong)

/-- 'laws.FnExactEqualSyntax': WHATEVER THE INPUT: true; the input reads as it did. -/
def fnExactEqualSyntaxSpec : ChangeSpec := { name := "fnExactEqualSyntax", fn := fun _ => fun
  | [d1, d2] => { results := [.lit (.bool true)], args := [d1, d2] }
  | _ => none }
def fnExactEqualSyntaxRow : OpenClaim := { program := "ytknplopghgchaaa", sum := "ecca799faa1f0630b40e58158b93bcf9e30d9b3172bba1d6c3612b34417f0fbe", func := "loop.example/g03220/laws.FnExactEqualSyntax", spec := "fnExactEqualSyntax", unfollowed := true, recurses := true, loops := true, apart := false }
def FnExactEqualSyntaxSaid : Prop := fnExactEqualSyntaxRow.holds Try.pinned (OpenSpec.ofChange fnExactEqualSyntaxSpec)

/-- ITS FALSE NEIGHBOUR: 'it returns false'. Refute it at one input. -/
def fnExactEqualSyntaxWrong : ChangeSpec := { name := "fnExactEqualSyntax", fn := fun _ => fun
  | [d1, d2] => { results := [.lit (.bool false)], args := [d1, d2] }
  | _ => none }
def FnExactEqualSyntaxWrongFalsely : Prop := fnExactEqualSyntaxRow.holds Try.pinned (OpenSpec.ofChange fnExactEqualSyntaxWrong)

/-- 'laws.FnExactAddScope': WHATEVER THE INPUT: true; the input reads as it did. -/
def fnExactAddScopeSpec : ChangeSpec := { name := "fnExactAddScope", fn := fun _ => fun
  | [d1, d2] => { results := [.lit (.bool true)], args := [d1, d2] }
  | _ => none }
def fnExactAddScopeRow : OpenClaim := { program := "ytknplopghgchaaa", sum := "ecca799faa1f0630b40e58158b93bcf9e30d9b3172bba1d6c3612b34417f0fbe", func := "loop.example/g03220/laws.FnExactAddScope", spec := "fnExactAddScope", inPlace := ["internal/bytealg.IndexByteString", "internal/bytealg.IndexString"], unfollowed := true, recurses := true, named := ["internal/bytealg.MaxLen"], loops := true, apart := false }
def FnExactAddScopeSaid : Prop := fnExactAddScopeRow.holds Try.pinned (OpenSpec.ofChange fnExactAddScopeSpec)

/-- ITS FALSE NEIGHBOUR: 'it returns false'. Refute it at one input. -/
def fnExactAddScopeWrong : ChangeSpec := { name := "fnExactAddScope", fn := fun _ => fun
  | [d1, d2] => { results := [.lit (.bool false)], args := [d1, d2] }
  | _ => none }
def FnExactAddScopeWrongFalsely : Prop := fnExactAddScopeRow.holds Try.pinned (OpenSpec.ofChange fnExactAddScopeWrong)

/-- 'laws.FnExactFlipScope': WHATEVER THE INPUT: true; the input reads as it did. -/
def fnExactFlipScopeSpec : ChangeSpec := { name := "fnExactFlipScope", fn := fun _ => fun
  | [d1, d2] => { results := [.lit (.bool true)], args := [d1, d2] }
  | _ => none }
def fnExactFlipScopeRow : OpenClaim := { program := "ytknplopghgchaaa", sum := "ecca799faa1f0630b40e58158b93bcf9e30d9b3172bba1d6c3612b34417f0fbe", func := "loop.example/g03220/laws.FnExactFlipScope", spec := "fnExactFlipScope", inPlace := ["internal/bytealg.IndexByteString", "internal/bytealg.IndexString"], unfollowed := true, recurses := true, named := ["internal/bytealg.MaxLen"], loops := true, apart := false }
def FnExactFlipScopeSaid : Prop := fnExactFlipScopeRow.holds Try.pinned (OpenSpec.ofChange fnExactFlipScopeSpec)

/-- ITS FALSE NEIGHBOUR: 'it returns false'. Refute it at one input. -/
def fnExactFlipScopeWrong : ChangeSpec := { name := "fnExactFlipScope", fn := fun _ => fun
  | [d1, d2] => { results := [.lit (.bool false)], args := [d1, d2] }
  | _ => none }
def FnExactFlipScopeWrongFalsely : Prop := fnExactFlipScopeRow.holds Try.pinned (OpenSpec.ofChange fnExactFlipScopeWrong)

/-- 'laws.FnExactStripUses': WHATEVER THE INPUT: true; the input reads as it did. -/
def fnExactStripUsesSpec : ChangeSpec := { name := "fnExactStripUses", fn := fun _ => fun
  | [d] => { results := [.lit (.bool true)], args := [d] }
  | _ => none }
def fnExactStripUsesRow : OpenClaim := { program := "ytknplopghgchaaa", sum := "ecca799faa1f0630b40e58158b93bcf9e30d9b3172bba1d6c3612b34417f0fbe", func := "loop.example/g03220/laws.FnExactStripUses", spec := "fnExactStripUses", inPlace := ["internal/bytealg.IndexByteString", "internal/bytealg.IndexString"], unfollowed := true, recurses := true, named := ["internal/bytealg.MaxLen"], loops := true, apart := false }
def FnExactStripUsesSaid : Prop := fnExactStripUsesRow.holds Try.pinned (OpenSpec.ofChange fnExactStripUsesSpec)

/-- ITS FALSE NEIGHBOUR: 'it returns false'. Refute it at one input. -/
def fnExactStripUsesWrong : ChangeSpec := { name := "fnExactStripUses", fn := fun _ => fun
  | [d] => { results := [.lit (.bool false)], args := [d] }
  | _ => none }
def FnExactStripUsesWrongFalsely : Prop := fnExactStripUsesRow.holds Try.pinned (OpenSpec.ofChange fnExactStripUsesWrong)

/-- 'laws.FnExactIsIdentifier': WHATEVER THE INPUT: true; the input reads as it did. -/
def fnExactIsIdentifierSpec : ChangeSpec := { name := "fnExactIsIdentifier", fn := fun _ => fun
  | [d] => { results := [.lit (.bool true)], args := [d] }
  | _ => none }
def fnExactIsIdentifierRow : OpenClaim := { program := "ytknplopghgchaaa", sum := "ecca799faa1f0630b40e58158b93bcf9e30d9b3172bba1d6c3612b34417f0fbe", func := "loop.example/g03220/laws.FnExactIsIdentifier", spec := "fnExactIsIdentifier", inPlace := ["internal/bytealg.IndexByteString", "internal/bytealg.IndexString"], recurses := true, named := ["internal/bytealg.MaxLen"], loops := true, apart := false }
def FnExactIsIdentifierSaid : Prop := fnExactIsIdentifierRow.holds Try.pinned (OpenSpec.ofChange fnExactIsIdentifierSpec)

/-- ITS FALSE NEIGHBOUR: 'it returns false'. Refute it at one input. -/
def fnExactIsIdentifierWrong : ChangeSpec := { name := "fnExactIsIdentifier", fn := fun _ => fun
  | [d] => { results := [.lit (.bool false)], args := [d] }
  | _ => none }
def FnExactIsIdentifierWrongFalsely : Prop := fnExactIsIdentifierRow.holds Try.pinned (OpenSpec.ofChange fnExactIsIdentifierWrong)

/-- 'laws.FnExactSameIdentifier': WHATEVER THE INPUT: true; the input reads as it did. -/
def fnExactSameIdentifierSpec : ChangeSpec := { name := "fnExactSameIdentifier", fn := fun _ => fun
  | [d1, d2] => { results := [.lit (.bool true)], args := [d1, d2] }
  | _ => none }
def fnExactSameIdentifierRow : OpenClaim := { program := "ytknplopghgchaaa", sum := "ecca799faa1f0630b40e58158b93bcf9e30d9b3172bba1d6c3612b34417f0fbe", func := "loop.example/g03220/laws.FnExactSameIdentifier", spec := "fnExactSameIdentifier", inPlace := ["internal/bytealg.IndexByteString", "internal/bytealg.IndexString"], unfollowed := true, recurses := true, named := ["internal/bytealg.MaxLen"], loops := true, apart := false }
def FnExactSameIdentifierSaid : Prop := fnExactSameIdentifierRow.holds Try.pinned (OpenSpec.ofChange fnExactSameIdentifierSpec)

/-- ITS FALSE NEIGHBOUR: 'it returns false'. Refute it at one input. -/
def fnExactSameIdentifierWrong : ChangeSpec := { name := "fnExactSameIdentifier", fn := fun _ => fun
  | [d1, d2] => { results := [.lit (.bool false)], args := [d1, d2] }
  | _ => none }
def FnExactSameIdentifierWrongFalsely : Prop := fnExactSameIdentifierRow.holds Try.pinned (OpenSpec.ofChange fnExactSameIdentifierWrong)

/-- 'laws.FnExactIdentifiersIn': WHATEVER THE INPUT: true; the input reads as it did. -/
def fnExactIdentifiersInSpec : ChangeSpec := { name := "fnExactIdentifiersIn", fn := fun _ => fun
  | [d] => { results := [.lit (.bool true)], args := [d] }
  | _ => none }
def fnExactIdentifiersInRow : OpenClaim := { program := "ytknplopghgchaaa", sum := "ecca799faa1f0630b40e58158b93bcf9e30d9b3172bba1d6c3612b34417f0fbe", func := "loop.example/g03220/laws.FnExactIdentifiersIn", spec := "fnExactIdentifiersIn", inPlace := ["internal/bytealg.IndexByteString", "internal/bytealg.IndexString"], unfollowed := true, recurses := true, named := ["internal/bytealg.MaxLen"], loops := true, apart := false }
def FnExactIdentifiersInSaid : Prop := fnExactIdentifiersInRow.holds Try.pinned (OpenSpec.ofChange fnExactIdentifiersInSpec)

/-- ITS FALSE NEIGHBOUR: 'it returns false'. Refute it at one input. -/
def fnExactIdentifiersInWrong : ChangeSpec := { name := "fnExactIdentifiersIn", fn := fun _ => fun
  | [d] => { results := [.lit (.bool false)], args := [d] }
  | _ => none }
def FnExactIdentifiersInWrongFalsely : Prop := fnExactIdentifiersInRow.holds Try.pinned (OpenSpec.ofChange fnExactIdentifiersInWrong)

/- THE SECOND FORM. 'bulk': how many values and letters a reading holds, each counted each time it is reached (what is shared counts as often as it is met; a slice's spare places count too). A statement '..UptoSaid' is the law's where the arguments, and the package variables that the reading takes, are together of bulk at most 1048576: NARROWER than '..Said'. Prove '..Said' where nothing that the law and all that it calls make is longer than what came in: it says more and counts as full. Else prove '..UptoSaid'. A law counts once. -/
mutual
def uptoBulk {H : Type} : DataW H → Nat
  | .lit (.string bytes) => bytes.length + 1
  | .lit _ => 1
  | .nil => 1
  | .ptr d => uptoBulk d + 1
  | .slice elems spare => uptoBulkAll elems + uptoBulkAll spare + 1
  | .agg parts => uptoBulkAll parts + 1
  | .iface _ d => uptoBulk d + 1
  | .map entries => uptoBulkEntries entries + 1
  | .held _ => 1
def uptoBulkAll {H : Type} : List (DataW H) → Nat
  | [] => 0
  | d :: r => uptoBulk d + uptoBulkAll r
def uptoBulkEntries {H : Type} : List (Lit × DataW H) → Nat
  | [] => 0
  | x :: r => uptoBulkEntry x + uptoBulkEntries r
def uptoBulkEntry {H : Type} : Lit × DataW H → Nat
  | (.string bytes, d) => bytes.length + uptoBulk d + 1
  | (_, d) => uptoBulk d + 1
 end
def uptoSmall : (H : Type) → List (DataW H) → Bool := fun _ ds => decide (uptoBulkAll ds ≤ 1048576)
def OpenSpec.upto (s : _root_.Go.ChangeSpec) : _root_.Go.OpenSpec := { _root_.Go.OpenSpec.ofChange s with cond := some uptoSmall }

/-- 'laws.FnSwapTwice', WHERE WHAT IT READS IS OF BULK AT MOST 1048576: true; the input reads as it did. -/
def fnSwapTwiceUptoRow : OpenClaim := { program := "ytknplopghgchaaa", sum := "ecca799faa1f0630b40e58158b93bcf9e30d9b3172bba1d6c3612b34417f0fbe", func := "loop.example/g03220/laws.FnSwapTwice", spec := "fnSwapTwice", inPlace := ["internal/bytealg.IndexByteString", "internal/bytealg.IndexString"], recurses := true, named := ["internal/bytealg.MaxLen"], apart := false, narrowed := true }
def FnSwapTwiceUptoSaid : Prop := fnSwapTwiceUptoRow.holds Try.pinned (OpenSpec.upto fnSwapTwiceSpec)

/-- 'laws.FnScopeSets', WHERE WHAT IT READS IS OF BULK AT MOST 1048576: true; the input reads as it did. -/
def fnScopeSetsUptoRow : OpenClaim := { program := "ytknplopghgchaaa", sum := "ecca799faa1f0630b40e58158b93bcf9e30d9b3172bba1d6c3612b34417f0fbe", func := "loop.example/g03220/laws.FnScopeSets", spec := "fnScopeSets", apart := false, narrowed := true }
def FnScopeSetsUptoSaid : Prop := fnScopeSetsUptoRow.holds Try.pinned (OpenSpec.upto fnScopeSetsSpec)

/-- 'laws.FnExactSwapSymbols', WHERE WHAT IT READS IS OF BULK AT MOST 1048576: true; the input reads as it did. -/
def fnExactSwapSymbolsUptoRow : OpenClaim := { program := "ytknplopghgchaaa", sum := "ecca799faa1f0630b40e58158b93bcf9e30d9b3172bba1d6c3612b34417f0fbe", func := "loop.example/g03220/laws.FnExactSwapSymbols", spec := "fnExactSwapSymbols", inPlace := ["internal/bytealg.IndexByteString", "internal/bytealg.IndexString"], recurses := true, named := ["internal/bytealg.MaxLen"], loops := true, apart := false, narrowed := true }
def FnExactSwapSymbolsUptoSaid : Prop := fnExactSwapSymbolsUptoRow.holds Try.pinned (OpenSpec.upto fnExactSwapSymbolsSpec)

/-- 'laws.FnExactSymbolsOf', WHERE WHAT IT READS IS OF BULK AT MOST 1048576: true; the input reads as it did. -/
def fnExactSymbolsOfUptoRow : OpenClaim := { program := "ytknplopghgchaaa", sum := "ecca799faa1f0630b40e58158b93bcf9e30d9b3172bba1d6c3612b34417f0fbe", func := "loop.example/g03220/laws.FnExactSymbolsOf", spec := "fnExactSymbolsOf", inPlace := ["internal/bytealg.IndexByteString", "internal/bytealg.IndexString"], recurses := true, named := ["internal/bytealg.MaxLen"], loops := true, apart := false, narrowed := true }
def FnExactSymbolsOfUptoSaid : Prop := fnExactSymbolsOfUptoRow.holds Try.pinned (OpenSpec.upto fnExactSymbolsOfSpec)

/-- 'laws.FnExactKindOfScope', WHERE WHAT IT READS IS OF BULK AT MOST 1048576: true; the input reads as it did. -/
def fnExactKindOfScopeUptoRow : OpenClaim := { program := "ytknplopghgchaaa", sum := "ecca799faa1f0630b40e58158b93bcf9e30d9b3172bba1d6c3612b34417f0fbe", func := "loop.example/g03220/laws.FnExactKindOfScope", spec := "fnExactKindOfScope", apart := false, narrowed := true }
def FnExactKindOfScopeUptoSaid : Prop := fnExactKindOfScopeUptoRow.holds Try.pinned (OpenSpec.upto fnExactKindOfScopeSpec)

/-- 'laws.FnExactIsScopeSet', WHERE WHAT IT READS IS OF BULK AT MOST 1048576: true; the input reads as it did. -/
def fnExactIsScopeSetUptoRow : OpenClaim := { program := "ytknplopghgchaaa", sum := "ecca799faa1f0630b40e58158b93bcf9e30d9b3172bba1d6c3612b34417f0fbe", func := "loop.example/g03220/laws.FnExactIsScopeSet", spec := "fnExactIsScopeSet", apart := false, narrowed := true }
def FnExactIsScopeSetUptoSaid : Prop := fnExactIsScopeSetUptoRow.holds Try.pinned (OpenSpec.upto fnExactIsScopeSetSpec)

/-- 'laws.FnExactHasScope', WHERE WHAT IT READS IS OF BULK AT MOST 1048576: true; the input reads as it did. -/
def fnExactHasScopeUptoRow : OpenClaim := { program := "ytknplopghgchaaa", sum := "ecca799faa1f0630b40e58158b93bcf9e30d9b3172bba1d6c3612b34417f0fbe", func := "loop.example/g03220/laws.FnExactHasScope", spec := "fnExactHasScope", apart := false, narrowed := true }
def FnExactHasScopeUptoSaid : Prop := fnExactHasScopeUptoRow.holds Try.pinned (OpenSpec.upto fnExactHasScopeSpec)

/-- 'laws.FnExactWithScope', WHERE WHAT IT READS IS OF BULK AT MOST 1048576: true; the input reads as it did. -/
def fnExactWithScopeUptoRow : OpenClaim := { program := "ytknplopghgchaaa", sum := "ecca799faa1f0630b40e58158b93bcf9e30d9b3172bba1d6c3612b34417f0fbe", func := "loop.example/g03220/laws.FnExactWithScope", spec := "fnExactWithScope", apart := false, narrowed := true }
def FnExactWithScopeUptoSaid : Prop := fnExactWithScopeUptoRow.holds Try.pinned (OpenSpec.upto fnExactWithScopeSpec)

/-- 'laws.FnExactFlippedScope', WHERE WHAT IT READS IS OF BULK AT MOST 1048576: true; the input reads as it did. -/
def fnExactFlippedScopeUptoRow : OpenClaim := { program := "ytknplopghgchaaa", sum := "ecca799faa1f0630b40e58158b93bcf9e30d9b3172bba1d6c3612b34417f0fbe", func := "loop.example/g03220/laws.FnExactFlippedScope", spec := "fnExactFlippedScope", apart := false, narrowed := true }
def FnExactFlippedScopeUptoSaid : Prop := fnExactFlippedScopeUptoRow.holds Try.pinned (OpenSpec.upto fnExactFlippedScopeSpec)

/-- 'laws.FnExactWithoutUses', WHERE WHAT IT READS IS OF BULK AT MOST 1048576: true; the input reads as it did. -/
def fnExactWithoutUsesUptoRow : OpenClaim := { program := "ytknplopghgchaaa", sum := "ecca799faa1f0630b40e58158b93bcf9e30d9b3172bba1d6c3612b34417f0fbe", func := "loop.example/g03220/laws.FnExactWithoutUses", spec := "fnExactWithoutUses", unfollowed := true, recurses := true, apart := false, narrowed := true }
def FnExactWithoutUsesUptoSaid : Prop := fnExactWithoutUsesUptoRow.holds Try.pinned (OpenSpec.upto fnExactWithoutUsesSpec)

/-- 'laws.FnExactIsSubset', WHERE WHAT IT READS IS OF BULK AT MOST 1048576: true; the input reads as it did. -/
def fnExactIsSubsetUptoRow : OpenClaim := { program := "ytknplopghgchaaa", sum := "ecca799faa1f0630b40e58158b93bcf9e30d9b3172bba1d6c3612b34417f0fbe", func := "loop.example/g03220/laws.FnExactIsSubset", spec := "fnExactIsSubset", apart := false, narrowed := true }
def FnExactIsSubsetUptoSaid : Prop := fnExactIsSubsetUptoRow.holds Try.pinned (OpenSpec.upto fnExactIsSubsetSpec)

/-- 'laws.FnExactCountSyntax', WHERE WHAT IT READS IS OF BULK AT MOST 1048576: true; the input reads as it did. -/
def fnExactCountSyntaxUptoRow : OpenClaim := { program := "ytknplopghgchaaa", sum := "ecca799faa1f0630b40e58158b93bcf9e30d9b3172bba1d6c3612b34417f0fbe", func := "loop.example/g03220/laws.FnExactCountSyntax", spec := "fnExactCountSyntax", recurses := true, loops := true, apart := false, narrowed := true }
def FnExactCountSyntaxUptoSaid : Prop := fnExactCountSyntaxUptoRow.holds Try.pinned (OpenSpec.upto fnExactCountSyntaxSpec)

/-- 'laws.FnExactIsSyntax', WHERE WHAT IT READS IS OF BULK AT MOST 1048576: true; the input reads as it did. -/
def fnExactIsSyntaxUptoRow : OpenClaim := { program := "ytknplopghgchaaa", sum := "ecca799faa1f0630b40e58158b93bcf9e30d9b3172bba1d6c3612b34417f0fbe", func := "loop.example/g03220/laws.FnExactIsSyntax", spec := "fnExactIsSyntax", inPlace := ["internal/bytealg.IndexByteString", "internal/bytealg.IndexString"], recurses := true, named := ["internal/bytealg.MaxLen"], loops := true, apart := false, narrowed := true }
def FnExactIsSyntaxUptoSaid : Prop := fnExactIsSyntaxUptoRow.holds Try.pinned (OpenSpec.upto fnExactIsSyntaxSpec)

/-- 'laws.FnExactSyntaxOf', WHERE WHAT IT READS IS OF BULK AT MOST 1048576: true; the input reads as it did. -/
def fnExactSyntaxOfUptoRow : OpenClaim := { program := "ytknplopghgchaaa", sum := "ecca799faa1f0630b40e58158b93bcf9e30d9b3172bba1d6c3612b34417f0fbe", func := "loop.example/g03220/laws.FnExactSyntaxOf", spec := "fnExactSyntaxOf", inPlace := ["internal/bytealg.IndexByteString", "internal/bytealg.IndexString"], unfollowed := true, recurses := true, named := ["internal/bytealg.MaxLen"], loops := true, apart := false, narrowed := true }
def FnExactSyntaxOfUptoSaid : Prop := fnExactSyntaxOfUptoRow.holds Try.pinned (OpenSpec.upto fnExactSyntaxOfSpec)

/-- 'laws.FnExactDatumOf', WHERE WHAT IT READS IS OF BULK AT MOST 1048576: true; the input reads as it did. -/
def fnExactDatumOfUptoRow : OpenClaim := { program := "ytknplopghgchaaa", sum := "ecca799faa1f0630b40e58158b93bcf9e30d9b3172bba1d6c3612b34417f0fbe", func := "loop.example/g03220/laws.FnExactDatumOf", spec := "fnExactDatumOf", inPlace := ["internal/bytealg.IndexByteString", "internal/bytealg.IndexString"], unfollowed := true, recurses := true, named := ["internal/bytealg.MaxLen"], loops := true, apart := false, narrowed := true }
def FnExactDatumOfUptoSaid : Prop := fnExactDatumOfUptoRow.holds Try.pinned (OpenSpec.upto fnExactDatumOfSpec)

/-- 'laws.FnExactEqualSyntax', WHERE WHAT IT READS IS OF BULK AT MOST 1048576: true; the input reads as it did. -/
def fnExactEqualSyntaxUptoRow : OpenClaim := { program := "ytknplopghgchaaa", sum := "ecca799faa1f0630b40e58158b93bcf9e30d9b3172bba1d6c3612b34417f0fbe", func := "loop.example/g03220/laws.FnExactEqualSyntax", spec := "fnExactEqualSyntax", unfollowed := true, recurses := true, loops := true, apart := false, narrowed := true }
def FnExactEqualSyntaxUptoSaid : Prop := fnExactEqualSyntaxUptoRow.holds Try.pinned (OpenSpec.upto fnExactEqualSyntaxSpec)

/-- 'laws.FnExactAddScope', WHERE WHAT IT READS IS OF BULK AT MOST 1048576: true; the input reads as it did. -/
def fnExactAddScopeUptoRow : OpenClaim := { program := "ytknplopghgchaaa", sum := "ecca799faa1f0630b40e58158b93bcf9e30d9b3172bba1d6c3612b34417f0fbe", func := "loop.example/g03220/laws.FnExactAddScope", spec := "fnExactAddScope", inPlace := ["internal/bytealg.IndexByteString", "internal/bytealg.IndexString"], unfollowed := true, recurses := true, named := ["internal/bytealg.MaxLen"], loops := true, apart := false, narrowed := true }
def FnExactAddScopeUptoSaid : Prop := fnExactAddScopeUptoRow.holds Try.pinned (OpenSpec.upto fnExactAddScopeSpec)

/-- 'laws.FnExactFlipScope', WHERE WHAT IT READS IS OF BULK AT MOST 1048576: true; the input reads as it did. -/
def fnExactFlipScopeUptoRow : OpenClaim := { program := "ytknplopghgchaaa", sum := "ecca799faa1f0630b40e58158b93bcf9e30d9b3172bba1d6c3612b34417f0fbe", func := "loop.example/g03220/laws.FnExactFlipScope", spec := "fnExactFlipScope", inPlace := ["internal/bytealg.IndexByteString", "internal/bytealg.IndexString"], unfollowed := true, recurses := true, named := ["internal/bytealg.MaxLen"], loops := true, apart := false, narrowed := true }
def FnExactFlipScopeUptoSaid : Prop := fnExactFlipScopeUptoRow.holds Try.pinned (OpenSpec.upto fnExactFlipScopeSpec)

/-- 'laws.FnExactStripUses', WHERE WHAT IT READS IS OF BULK AT MOST 1048576: true; the input reads as it did. -/
def fnExactStripUsesUptoRow : OpenClaim := { program := "ytknplopghgchaaa", sum := "ecca799faa1f0630b40e58158b93bcf9e30d9b3172bba1d6c3612b34417f0fbe", func := "loop.example/g03220/laws.FnExactStripUses", spec := "fnExactStripUses", inPlace := ["internal/bytealg.IndexByteString", "internal/bytealg.IndexString"], unfollowed := true, recurses := true, named := ["internal/bytealg.MaxLen"], loops := true, apart := false, narrowed := true }
def FnExactStripUsesUptoSaid : Prop := fnExactStripUsesUptoRow.holds Try.pinned (OpenSpec.upto fnExactStripUsesSpec)

/-- 'laws.FnExactIsIdentifier', WHERE WHAT IT READS IS OF BULK AT MOST 1048576: true; the input reads as it did. -/
def fnExactIsIdentifierUptoRow : OpenClaim := { program := "ytknplopghgchaaa", sum := "ecca799faa1f0630b40e58158b93bcf9e30d9b3172bba1d6c3612b34417f0fbe", func := "loop.example/g03220/laws.FnExactIsIdentifier", spec := "fnExactIsIdentifier", inPlace := ["internal/bytealg.IndexByteString", "internal/bytealg.IndexString"], recurses := true, named := ["internal/bytealg.MaxLen"], loops := true, apart := false, narrowed := true }
def FnExactIsIdentifierUptoSaid : Prop := fnExactIsIdentifierUptoRow.holds Try.pinned (OpenSpec.upto fnExactIsIdentifierSpec)

/-- 'laws.FnExactSameIdentifier', WHERE WHAT IT READS IS OF BULK AT MOST 1048576: true; the input reads as it did. -/
def fnExactSameIdentifierUptoRow : OpenClaim := { program := "ytknplopghgchaaa", sum := "ecca799faa1f0630b40e58158b93bcf9e30d9b3172bba1d6c3612b34417f0fbe", func := "loop.example/g03220/laws.FnExactSameIdentifier", spec := "fnExactSameIdentifier", inPlace := ["internal/bytealg.IndexByteString", "internal/bytealg.IndexString"], unfollowed := true, recurses := true, named := ["internal/bytealg.MaxLen"], loops := true, apart := false, narrowed := true }
def FnExactSameIdentifierUptoSaid : Prop := fnExactSameIdentifierUptoRow.holds Try.pinned (OpenSpec.upto fnExactSameIdentifierSpec)

/-- 'laws.FnExactIdentifiersIn', WHERE WHAT IT READS IS OF BULK AT MOST 1048576: true; the input reads as it did. -/
def fnExactIdentifiersInUptoRow : OpenClaim := { program := "ytknplopghgchaaa", sum := "ecca799faa1f0630b40e58158b93bcf9e30d9b3172bba1d6c3612b34417f0fbe", func := "loop.example/g03220/laws.FnExactIdentifiersIn", spec := "fnExactIdentifiersIn", inPlace := ["internal/bytealg.IndexByteString", "internal/bytealg.IndexString"], unfollowed := true, recurses := true, named := ["internal/bytealg.MaxLen"], loops := true, apart := false, narrowed := true }
def FnExactIdentifiersInUptoSaid : Prop := fnExactIdentifiersInUptoRow.holds Try.pinned (OpenSpec.upto fnExactIdentifiersInSpec)

end Rows
end Go.Proofs.Ytknplopghgchaaa
