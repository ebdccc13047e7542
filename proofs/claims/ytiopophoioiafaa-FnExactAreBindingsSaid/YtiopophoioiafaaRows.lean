/-
  NARROWER THAN 'FOR EVERY INPUT', by the rows' own cells (each row's printed sentence says how): FnExactSwapSymbols: loops · FnExactSymbolsOf: loops · FnExactAddScope: loops · FnExactFlipScope: loops · FnExactStripUses: loops · FnExactIdentifiersIn: loops · FnExactCandidates: loops · FnExactResolve: loops · FnExactSameMeaning: loops.
  DERIVED. THE GIVEN ROWS OF THIS SEAT. 17 by the template 'for every input the law returns true; each argument reads behind the call as it read before'; 0 by the template 'total and deterministic' (their statements: YtiopophoioiafaaTotals.lean).
  GIVEN WITH THE SEED: the statements are not yours to turn. If you find one false, say at which input.
  Laid BY PROGRAM, IN A SANDBOX (cutbox-rows.mjs): the forced cells as the released guide's own fill.sh prints them over the translation ed60714fc4e649e0… (all of the seat's roots in one cut). By AI agents, Wed Nov 11 2026. No macro, syntax, notation, axiom, sorry.
-/
import Derived.Test.YtiopophoioiafaaChecked
import GoSem.Claim
import GoSem.ClaimJoined
import GoSem.ClaimMapViews
import Derived.JoinedTies
import Derived.KernelRfl
namespace Go.Proofs.Ytiopophoioiafaa
/- THE CELL 'sum', in the pinned program and in every row, IS THE sha256 OF THE DUMP (.gsa) THAT YtiopophoioiafaaProg.lean LOADS. Nothing in Lean hashes anything: it is a label: what it is worth is what the hold of that sum in a sandbox is worth. -/
noncomputable def Try.pinned : Pinned := { name := "ytiopophoioiafaa", sum := "ed60714fc4e649e07fb6afb498ef7c7e1c78c31356cc15c765502409adc9ce40", checked := Try.checked }
namespace Rows
def none {H : Type} : Left H := { results := [], args := [] }

/-- 'laws.FnSwapTwice': WHATEVER THE INPUT: true; the input reads as it did. -/
def fnSwapTwiceSpec : ChangeSpec := { name := "fnSwapTwice", fn := fun _ => fun
  | [d] => { results := [.lit (.bool true)], args := [d] }
  | _ => none }
def fnSwapTwiceRow : OpenClaim := { program := "ytiopophoioiafaa", sum := "ed60714fc4e649e07fb6afb498ef7c7e1c78c31356cc15c765502409adc9ce40", func := "loop.example/g03220/laws.FnSwapTwice", spec := "fnSwapTwice", inPlace := ["internal/bytealg.IndexByteString", "internal/bytealg.IndexString"], recurses := true, named := ["internal/bytealg.MaxLen"], apart := false }
def FnSwapTwiceSaid : Prop := fnSwapTwiceRow.holds Try.pinned (OpenSpec.ofChange fnSwapTwiceSpec)

/-- ITS FALSE NEIGHBOUR: 'it returns false'. Refute it at one input. -/
def fnSwapTwiceWrong : ChangeSpec := { name := "fnSwapTwice", fn := fun _ => fun
  | [d] => { results := [.lit (.bool false)], args := [d] }
  | _ => none }
def FnSwapTwiceWrongFalsely : Prop := fnSwapTwiceRow.holds Try.pinned (OpenSpec.ofChange fnSwapTwiceWrong)

/-- 'laws.FnExactSwapSymbols': WHATEVER THE INPUT: true; the input reads as it did. -/
def fnExactSwapSymbolsSpec : ChangeSpec := { name := "fnExactSwapSymbols", fn := fun _ => fun
  | [d1, d2, d3] => { results := [.lit (.bool true)], args := [d1, d2, d3] }
  | _ => none }
def fnExactSwapSymbolsRow : OpenClaim := { program := "ytiopophoioiafaa", sum := "ed60714fc4e649e07fb6afb498ef7c7e1c78c31356cc15c765502409adc9ce40", func := "loop.example/g03220/laws.FnExactSwapSymbols", spec := "fnExactSwapSymbols", inPlace := ["internal/bytealg.IndexByteString", "internal/bytealg.IndexString"], recurses := true, named := ["internal/bytealg.MaxLen"], loops := true, apart := false }
def FnExactSwapSymbolsSaid : Prop := fnExactSwapSymbolsRow.holds Try.pinned (OpenSpec.ofChange fnExactSwapSymbolsSpec)

/-- ITS FALSE NEIGHBOUR: 'it returns false'. Refute it at one input. -/
def fnExactSwapSymbolsWrong : ChangeSpec := { name := "fnExactSwapSymbols", fn := fun _ => fun
  | [d1, d2, d3] => { results := [.lit (.bool false)], args := [d1, d2, d3] }
  | _ => none }
def FnExactSwapSymbolsWrongFalsely : Prop := fnExactSwapSymbolsRow.holds Try.pinned (OpenSpec.ofChange fnExactSwapSymbolsWrong)

/-- 'laws.FnExactSymbolsOf': WHATEVER THE INPUT: true; the input reads as it did. -/
def fnExactSymbolsOfSpec : ChangeSpec := { name := "fnExactSymbolsOf", fn := fun _ => fun
  | [d] => { results := [.lit (.bool true)], args := [d] }
  | _ => none }
def fnExactSymbolsOfRow : OpenClaim := { program := "ytiopophoioiafaa", sum := "ed60714fc4e649e07fb6afb498ef7c7e1c78c31356cc15c765502409adc9ce40", func := "loop.example/g03220/laws.FnExactSymbolsOf", spec := "fnExactSymbolsOf", inPlace := ["internal/bytealg.IndexByteString", "internal/bytealg.IndexString"], recurses := true, named := ["internal/bytealg.MaxLen"], loops := true, apart := false }
def FnExactSymbolsOfSaid : Prop := fnExactSymbolsOfRow.holds Try.pinned (OpenSpec.ofChange fnExactSymbolsOfSpec)

/-- ITS FALSE NEIGHBOUR: 'it returns false'. Refute it at one input. -/
def fnExactSymbolsOfWrong : ChangeSpec := { name := "fnExactSymbolsOf", fn := fun _ => fun
  | [d] => { results := [.lit (.bool false)], args := [d] }
  | _ => none }
def FnExactSymbolsOfWrongFalsely : Prop := fnExactSymbolsOfRow.holds Try.pinned (OpenSpec.ofChange fnExactSymbolsOfWrong)

/-- 'laws.FnExactAddScope': WHATEVER THE INPUT: true; the input reads as it did. -/
def fnExactAddScopeSpec : ChangeSpec := { name := "fnExactAddScope", fn := fun _ => fun
  | [d1, d2] => { results := [.lit (.bool true)], args := [d1, d2] }
  | _ => none }
def fnExactAddScopeRow : OpenClaim := { program := "ytiopophoioiafaa", sum := "ed60714fc4e649e07fb6afb498ef7c7e1c78c31356cc15c765502409adc9ce40", func := "loop.example/g03220/laws.FnExactAddScope", spec := "fnExactAddScope", inPlace := ["internal/bytealg.IndexByteString", "internal/bytealg.IndexString"], unfollowed := true, recurses := true, named := ["internal/bytealg.MaxLen"], loops := true, apart := false }
def FnExactAddScopeSaid : Prop := fnExactAddScopeRow.holds Try.pinned (OpenSpec.ofChange fnExactAddScopeSpec)

/-- ITS FALSE NEIGHBOUR: 'it returns false'. Refute it at one input. -/
def fnExactAddScopeWrong : ChangeSpec := { name := "fnExactAddScope", fn := fun _ => fun
  | [d1, d2] => { results := [.lit (.bool false)], args := [d1, d2] }
  | _ => none }
def FnExactAddScopeWrongFalsely : Prop := fnExactAddScopeRow.holds Try.pinned (OpenSpec.ofChange fnExactAddScopeWrong)

/-- 'laws.FnExactFlipScope': WHATEVER THE INPUT: true; the input reads as it did. -/
def fnExactFlipScopeSpec : ChangeSpec := { name := "fnExactFlipScope", fn := fun _ => fun
  | [d1, d2] => { results := [.lit (.bool true)], args := [d1, d2] }
  | _ => none }
def fnExactFlipScopeRow : OpenClaim := { program := "ytiopophoioiafaa", sum := "ed60714fc4e649e07fb6afb498ef7c7e1c78c31356cc15c765502409adc9ce40", func := "loop.example/g03220/laws.FnExactFlipScope", spec := "fnExactFlipScope", inPlace := ["internal/bytealg.IndexByteString", "internal/bytealg.IndexString"], unfollowed := true, recurses := true, named := ["internal/bytealg.MaxLen"], loops := true, apart := false }
def FnExactFlipScopeSaid : Prop := fnExactFlipScopeRow.holds Try.pinned (OpenSpec.ofChange fnExactFlipScopeSpec)

/-- ITS FALSE NEIGHBOUR: 'it returns false'. Refute it at one input. -/
def fnExactFlipScopeWrong : ChangeSpec := { name := "fnExactFlipScope", fn := fun _ => fun
  | [d1, d2] => { results := [.lit (.bool false)], args := [d1, d2] }
  | _ => none }
def FnExactFlipScopeWrongFalsely : Prop := fnExactFlipScopeRow.holds Try.pinned (OpenSpec.ofChange fnExactFlipScopeWrong)

/-- 'laws.FnExactStripUses': WHATEVER THE INPUT: true; the input reads as it did. -/
def fnExactStripUsesSpec : ChangeSpec := { name := "fnExactStripUses", fn := fun _ => fun
  | [d] => { results := [.lit (.bool true)], args := [d] }
  | _ => none }
def fnExactStripUsesRow : OpenClaim := { program := "ytiopophoioiafaa", sum := "ed60714fc4e649e07fb6afb498ef7c7e1c78c31356cc15c765502409adc9ce40", func := "loop.example/g03220/laws.FnExactStripUses", spec := "fnExactStripUses", inPlace := ["internal/bytealg.IndexByteString", "internal/bytealg.IndexString"], unfollowed := true, recurses := true, named := ["internal/bytealg.MaxLen"], loops := true, apart := false }
def FnExactStripUsesSaid : Prop := fnExactStripUsesRow.holds Try.pinned (OpenSpec.ofChange fnExactStripUsesSpec)

/-- ITS FALSE NEIGHBOUR: 'it returns false'. Refute it at one input. -/
def fnExactStripUsesWrong : ChangeSpec := { name := "fnExactStripUses", fn := fun _ => fun
  | [d] => { results := [.lit (.bool false)], args := [d] }
  | _ => none }
def FnExactStripUsesWrongFalsely : Prop := fnExactStripUsesRow.holds Try.pinned (OpenSpec.ofChange fnExactStripUsesWrong)

/-- 'laws.FnExactIdentifiersIn': WHATEVER THE INPUT: true; the input reads as it did. -/
def fnExactIdentifiersInSpec : ChangeSpec := { name := "fnExactIdentifiersIn", fn := fun _ => fun
  | [d] => { results := [.lit (.bool true)], args := [d] }
  | _ => none }
def fnExactIdentifiersInRow : OpenClaim := { program := "ytiopophoioiafaa", sum := "ed60714fc4e649e07fb6afb498ef7c7e1c78c31356cc15c765502409adc9ce40", func := "loop.example/g03220/laws.FnExactIdentifiersIn", spec := "fnExactIdentifiersIn", inPlace := ["internal/bytealg.IndexByteString", "internal/bytealg.IndexString"], unfollowed := true, recurses := true, named := ["internal/bytealg.MaxLen"], loops := true, apart := false }
def FnExactIdentifiersInSaid : Prop := fnExactIdentifiersInRow.holds Try.pinned (OpenSpec.ofChange fnExactIdentifiersInSpec)

/-- ITS FALSE NEIGHBOUR: 'it returns false'. Refute it at one input. -/
def fnExactIdentifiersInWrong : ChangeSpec := { name := "fnExactIdentifiersIn", fn := fun _ => fun
  | [d] => { results := [.lit (.bool false)], args := [d] }
  | _ => none }
def FnExactIdentifiersInWrongFalsely : Prop := fnExactIdentifiersInRow.holds Try.pinned (OpenSpec.ofChange fnExactIdentifiersInWrong)

/-- 'laws.FnExactFormNames': WHATEVER THE INPUT: true; the input reads as it did. -/
def fnExactFormNamesSpec : ChangeSpec := { name := "fnExactFormNames", fn := fun _ => fun
  | [] => { results := [.lit (.bool true)], args := [] }
  | _ => none }
def fnExactFormNamesRow : OpenClaim := { program := "ytiopophoioiafaa", sum := "ed60714fc4e649e07fb6afb498ef7c7e1c78c31356cc15c765502409adc9ce40", func := "loop.example/g03220/laws.FnExactFormNames", spec := "fnExactFormNames", apart := false }
def FnExactFormNamesSaid : Prop := fnExactFormNamesRow.holds Try.pinned (OpenSpec.ofChange fnExactFormNamesSpec)

/-- ITS FALSE NEIGHBOUR: 'it returns false'. Refute it at one input. -/
def fnExactFormNamesWrong : ChangeSpec := { name := "fnExactFormNames", fn := fun _ => fun
  | [] => { results := [.lit (.bool false)], args := [] }
  | _ => none }
def FnExactFormNamesWrongFalsely : Prop := fnExactFormNamesRow.holds Try.pinned (OpenSpec.ofChange fnExactFormNamesWrong)

/-- 'laws.FnExactPrimitiveNames': WHATEVER THE INPUT: true; the input reads as it did. -/
def fnExactPrimitiveNamesSpec : ChangeSpec := { name := "fnExactPrimitiveNames", fn := fun _ => fun
  | [] => { results := [.lit (.bool true)], args := [] }
  | _ => none }
def fnExactPrimitiveNamesRow : OpenClaim := { program := "ytiopophoioiafaa", sum := "ed60714fc4e649e07fb6afb498ef7c7e1c78c31356cc15c765502409adc9ce40", func := "loop.example/g03220/laws.FnExactPrimitiveNames", spec := "fnExactPrimitiveNames", apart := false }
def FnExactPrimitiveNamesSaid : Prop := fnExactPrimitiveNamesRow.holds Try.pinned (OpenSpec.ofChange fnExactPrimitiveNamesSpec)

/-- ITS FALSE NEIGHBOUR: 'it returns false'. Refute it at one input. -/
def fnExactPrimitiveNamesWrong : ChangeSpec := { name := "fnExactPrimitiveNames", fn := fun _ => fun
  | [] => { results := [.lit (.bool false)], args := [] }
  | _ => none }
def FnExactPrimitiveNamesWrongFalsely : Prop := fnExactPrimitiveNamesRow.holds Try.pinned (OpenSpec.ofChange fnExactPrimitiveNamesWrong)

/-- 'laws.FnExactIsBinding': WHATEVER THE INPUT: true; the input reads as it did. -/
def fnExactIsBindingSpec : ChangeSpec := { name := "fnExactIsBinding", fn := fun _ => fun
  | [d] => { results := [.lit (.bool true)], args := [d] }
  | _ => none }
def fnExactIsBindingRow : OpenClaim := { program := "ytiopophoioiafaa", sum := "ed60714fc4e649e07fb6afb498ef7c7e1c78c31356cc15c765502409adc9ce40", func := "loop.example/g03220/laws.FnExactIsBinding", spec := "fnExactIsBinding", inPlace := ["internal/bytealg.IndexByteString", "internal/bytealg.IndexString"], named := ["internal/bytealg.MaxLen"], apart := false }
def FnExactIsBindingSaid : Prop := fnExactIsBindingRow.holds Try.pinned (OpenSpec.ofChange fnExactIsBindingSpec)

/-- ITS FALSE NEIGHBOUR: 'it returns false'. Refute it at one input. -/
def fnExactIsBindingWrong : ChangeSpec := { name := "fnExactIsBinding", fn := fun _ => fun
  | [d] => { results := [.lit (.bool false)], args := [d] }
  | _ => none }
def FnExactIsBindingWrongFalsely : Prop := fnExactIsBindingRow.holds Try.pinned (OpenSpec.ofChange fnExactIsBindingWrong)

/-- 'laws.FnExactAreBindings': WHATEVER THE INPUT: true; the input reads as it did. -/
def fnExactAreBindingsSpec : ChangeSpec := { name := "fnExactAreBindings", fn := fun _ => fun
  | [d] => { results := [.lit (.bool true)], args := [d] }
  | _ => none }
def fnExactAreBindingsRow : OpenClaim := { program := "ytiopophoioiafaa", sum := "ed60714fc4e649e07fb6afb498ef7c7e1c78c31356cc15c765502409adc9ce40", func := "loop.example/g03220/laws.FnExactAreBindings", spec := "fnExactAreBindings", inPlace := ["internal/bytealg.IndexByteString", "internal/bytealg.IndexString"], unfollowed := true, recurses := true, named := ["internal/bytealg.MaxLen"], apart := false }
def FnExactAreBindingsSaid : Prop := fnExactAreBindingsRow.holds Try.pinned (OpenSpec.ofChange fnExactAreBindingsSpec)

/-- ITS FALSE NEIGHBOUR: 'it returns false'. Refute it at one input. -/
def fnExactAreBindingsWrong : ChangeSpec := { name := "fnExactAreBindings", fn := fun _ => fun
  | [d] => { results := [.lit (.bool false)], args := [d] }
  | _ => none }
def FnExactAreBindingsWrongFalsely : Prop := fnExactAreBindingsRow.holds Try.pinned (OpenSpec.ofChange fnExactAreBindingsWrong)

/-- 'laws.FnExactAddBinding': WHATEVER THE INPUT: true; the input reads as it did. -/
def fnExactAddBindingSpec : ChangeSpec := { name := "fnExactAddBinding", fn := fun _ => fun
  | [d1, d2] => { results := [.lit (.bool true)], args := [d1, d2] }
  | _ => none }
def fnExactAddBindingRow : OpenClaim := { program := "ytiopophoioiafaa", sum := "ed60714fc4e649e07fb6afb498ef7c7e1c78c31356cc15c765502409adc9ce40", func := "loop.example/g03220/laws.FnExactAddBinding", spec := "fnExactAddBinding", inPlace := ["internal/bytealg.IndexByteString", "internal/bytealg.IndexString"], unfollowed := true, recurses := true, named := ["internal/bytealg.MaxLen"], apart := false }
def FnExactAddBindingSaid : Prop := fnExactAddBindingRow.holds Try.pinned (OpenSpec.ofChange fnExactAddBindingSpec)

/-- ITS FALSE NEIGHBOUR: 'it returns false'. Refute it at one input. -/
def fnExactAddBindingWrong : ChangeSpec := { name := "fnExactAddBinding", fn := fun _ => fun
  | [d1, d2] => { results := [.lit (.bool false)], args := [d1, d2] }
  | _ => none }
def FnExactAddBindingWrongFalsely : Prop := fnExactAddBindingRow.holds Try.pinned (OpenSpec.ofChange fnExactAddBindingWrong)

/-- 'laws.FnExactCoreBindings': WHATEVER THE INPUT: true; the input reads as it did. -/
def fnExactCoreBindingsSpec : ChangeSpec := { name := "fnExactCoreBindings", fn := fun _ => fun
  | [] => { results := [.lit (.bool true)], args := [] }
  | _ => none }
def fnExactCoreBindingsRow : OpenClaim := { program := "ytiopophoioiafaa", sum := "ed60714fc4e649e07fb6afb498ef7c7e1c78c31356cc15c765502409adc9ce40", func := "loop.example/g03220/laws.FnExactCoreBindings", spec := "fnExactCoreBindings", apart := false }
def FnExactCoreBindingsSaid : Prop := fnExactCoreBindingsRow.holds Try.pinned (OpenSpec.ofChange fnExactCoreBindingsSpec)

/-- ITS FALSE NEIGHBOUR: 'it returns false'. Refute it at one input. -/
def fnExactCoreBindingsWrong : ChangeSpec := { name := "fnExactCoreBindings", fn := fun _ => fun
  | [] => { results := [.lit (.bool false)], args := [] }
  | _ => none }
def FnExactCoreBindingsWrongFalsely : Prop := fnExactCoreBindingsRow.holds Try.pinned (OpenSpec.ofChange fnExactCoreBindingsWrong)

/-- 'laws.FnExactCandidates': WHATEVER THE INPUT: true; the input reads as it did. -/
def fnExactCandidatesSpec : ChangeSpec := { name := "fnExactCandidates", fn := fun _ => fun
  | [d1, d2] => { results := [.lit (.bool true)], args := [d1, d2] }
  | _ => none }
def fnExactCandidatesRow : OpenClaim := { program := "ytiopophoioiafaa", sum := "ed60714fc4e649e07fb6afb498ef7c7e1c78c31356cc15c765502409adc9ce40", func := "loop.example/g03220/laws.FnExactCandidates", spec := "fnExactCandidates", inPlace := ["internal/bytealg.IndexByteString", "internal/bytealg.IndexString"], unfollowed := true, recurses := true, named := ["internal/bytealg.MaxLen"], loops := true, apart := false }
def FnExactCandidatesSaid : Prop := fnExactCandidatesRow.holds Try.pinned (OpenSpec.ofChange fnExactCandidatesSpec)

/-- ITS FALSE NEIGHBOUR: 'it returns false'. Refute it at one input. -/
def fnExactCandidatesWrong : ChangeSpec := { name := "fnExactCandidates", fn := fun _ => fun
  | [d1, d2] => { results := [.lit (.bool false)], args := [d1, d2] }
  | _ => none }
def FnExactCandidatesWrongFalsely : Prop := fnExactCandidatesRow.holds Try.pinned (OpenSpec.ofChange fnExactCandidatesWrong)

/-- 'laws.FnExactResolve': WHATEVER THE INPUT: true; the input reads as it did. -/
def fnExactResolveSpec : ChangeSpec := { name := "fnExactResolve", fn := fun _ => fun
  | [d1, d2] => { results := [.lit (.bool true)], args := [d1, d2] }
  | _ => none }
def fnExactResolveRow : OpenClaim := { program := "ytiopophoioiafaa", sum := "ed60714fc4e649e07fb6afb498ef7c7e1c78c31356cc15c765502409adc9ce40", func := "loop.example/g03220/laws.FnExactResolve", spec := "fnExactResolve", inPlace := ["internal/bytealg.IndexByteString", "internal/bytealg.IndexString"], unfollowed := true, recurses := true, named := ["internal/bytealg.MaxLen"], loops := true, apart := false }
def FnExactResolveSaid : Prop := fnExactResolveRow.holds Try.pinned (OpenSpec.ofChange fnExactResolveSpec)

/-- ITS FALSE NEIGHBOUR: 'it returns false'. Refute it at one input. -/
def fnExactResolveWrong : ChangeSpec := { name := "fnExactResolve", fn := fun _ => fun
  | [d1, d2] => { results := [.lit (.bool false)], args := [d1, d2] }
  | _ => none }
def FnExactResolveWrongFalsely : Prop := fnExactResolveRow.holds Try.pinned (OpenSpec.ofChange fnExactResolveWrong)

/-- 'laws.FnExactSameMeaning': WHATEVER THE INPUT: true; the input reads as it did. -/
def fnExactSameMeaningSpec : ChangeSpec := { name := "fnExactSameMeaning", fn := fun _ => fun
  | [d1, d2, d3] => { results := [.lit (.bool true)], args := [d1, d2, d3] }
  | _ => none }
def fnExactSameMeaningRow : OpenClaim := { program := "ytiopophoioiafaa", sum := "ed60714fc4e649e07fb6afb498ef7c7e1c78c31356cc15c765502409adc9ce40", func := "loop.example/g03220/laws.FnExactSameMeaning", spec := "fnExactSameMeaning", inPlace := ["internal/bytealg.IndexByteString", "internal/bytealg.IndexString"], unfollowed := true, recurses := true, named := ["internal/bytealg.MaxLen"], loops := true, apart := false }
def FnExactSameMeaningSaid : Prop := fnExactSameMeaningRow.holds Try.pinned (OpenSpec.ofChange fnExactSameMeaningSpec)

/-- ITS FALSE NEIGHBOUR: 'it returns false'. Refute it at one input. -/
def fnExactSameMeaningWrong : ChangeSpec := { name := "fnExactSameMeaning", fn := fun _ => fun
  | [d1, d2, d3] => { results := [.lit (.bool false)], args := [d1, d2, d3] }
  | _ => none }
def FnExactSameMeaningWrongFalsely : Prop := fnExactSameMeaningRow.holds Try.pinned (OpenSpec.ofChange fnExactSameMeaningWrong)

/-- 'laws.FnExactEqualBindings': WHATEVER THE INPUT: true; the input reads as it did. -/
def fnExactEqualBindingsSpec : ChangeSpec := { name := "fnExactEqualBindings", fn := fun _ => fun
  | [d1, d2] => { results := [.lit (.bool true)], args := [d1, d2] }
  | _ => none }
def fnExactEqualBindingsRow : OpenClaim := { program := "ytiopophoioiafaa", sum := "ed60714fc4e649e07fb6afb498ef7c7e1c78c31356cc15c765502409adc9ce40", func := "loop.example/g03220/laws.FnExactEqualBindings", spec := "fnExactEqualBindings", unfollowed := true, recurses := true, apart := false }
def FnExactEqualBindingsSaid : Prop := fnExactEqualBindingsRow.holds Try.pinned (OpenSpec.ofChange fnExactEqualBindingsSpec)

/-- ITS FALSE NEIGHBOUR: 'it returns false'. Refute it at one input. -/
def fnExactEqualBindingsWrong : ChangeSpec := { name := "fnExactEqualBindings", fn := fun _ => fun
  | [d1, d2] => { results := [.lit (.bool false)], args := [d1, d2] }
  | _ => none }
def FnExactEqualBindingsWrongFalsely : Prop := fnExactEqualBindingsRow.holds Try.pinned (OpenSpec.ofChange fnExactEqualBindingsWrong)

/- THE SECOND FORM. 'bulk': how many values and letters a reading holds, each counted each time it is reached (what is shared counts as often as it is met; a slice's spare places count too). A statement '..UptoSaid' is the law's where the arguments, and the package variables that the reading takes, are together of bulk at most 1048576: NARROWER than '..Said'. Prove '..Said' where nothing that the law and all that it calls make is longer than what came in: it says more and counts as full. Else prove '..UptoSaid'. A law counts once. -/
mutual
def uptoBulk {H : Type} : DataW H → Nat
  | .lit (.string bytes) => bytes.length + 1
  | .lit _ => 1
  | .nil => 1
  | .ptr d => uptoBulk d + 1
  | .slice elems spare => uptoBulkAll elems + uptoBulkAll spare + 1
  | .agg parts => uptoBulkAll parts + 1
  | .iface _ d => uptoBulk d + 1
  | .map entries => uptoBulkEntries entries + 1
  | .held _ => 1
def uptoBulkAll {H : Type} : List (DataW H) → Nat
  | [] => 0
  | d :: r => uptoBulk d + uptoBulkAll r
def uptoBulkEntries {H : Type} : List (Lit × DataW H) → Nat
  | [] => 0
  | x :: r => uptoBulkEntry x + uptoBulkEntries r
def uptoBulkEntry {H : Type} : Lit × DataW H → Nat
  | (.string bytes, d) => bytes.length + uptoBulk d + 1
  | (_, d) => uptoBulk d + 1
 end
def uptoSmall : (H : Type) → List (DataW H) → Bool := fun _ ds => decide (uptoBulkAll ds ≤ 1048576)
def OpenSpec.upto (s : _root_.Go.ChangeSpec) : _root_.Go.OpenSpec := { _root_.Go.OpenSpec.ofChange s with cond := some uptoSmall }

/-- 'laws.FnSwapTwice', WHERE WHAT IT READS IS OF BULK AT MOST 1048576: true; the input reads as it did. -/
def fnSwapTwiceUptoRow : OpenClaim := { program := "ytiopophoioiafaa", sum := "ed60714fc4e649e07fb6afb498ef7c7e1c78c31356cc15c765502409adc9ce40", func := "loop.example/g03220/laws.FnSwapTwice", spec := "fnSwapTwice", inPlace := ["internal/bytealg.IndexByteString", "internal/bytealg.IndexString"], recurses := true, named := ["internal/bytealg.MaxLen"], apart := false, narrowed := true }
def FnSwapTwiceUptoSaid : Prop := fnSwapTwiceUptoRow.holds Try.pinned (OpenSpec.upto fnSwapTwiceSpec)

/-- 'laws.FnExactSwapSymbols', WHERE WHAT IT READS IS OF BULK AT MOST 1048576: true; the input reads as it did. -/
def fnExactSwapSymbolsUptoRow : OpenClaim := { program := "ytiopophoioiafaa", sum := "ed60714fc4e649e07fb6afb498ef7c7e1c78c31356cc15c765502409adc9ce40", func := "loop.example/g03220/laws.FnExactSwapSymbols", spec := "fnExactSwapSymbols", inPlace := ["internal/bytealg.IndexByteString", "internal/bytealg.IndexString"], recurses := true, named := ["internal/bytealg.MaxLen"], loops := true, apart := false, narrowed := true }
def FnExactSwapSymbolsUptoSaid : Prop := fnExactSwapSymbolsUptoRow.holds Try.pinned (OpenSpec.upto fnExactSwapSymbolsSpec)

/-- 'laws.FnExactSymbolsOf', WHERE WHAT IT READS IS OF BULK AT MOST 1048576: true; the input reads as it did. -/
def fnExactSymbolsOfUptoRow : OpenClaim := { program := "ytiopophoioiafaa", sum := "ed60714fc4e649e07fb6afb498ef7c7e1c78c31356cc15c765502409adc9ce40", func := "loop.example/g03220/laws.FnExactSymbolsOf", spec := "fnExactSymbolsOf", inPlace := ["internal/bytealg.IndexByteString", "internal/bytealg.IndexString"], recurses := true, named := ["internal/bytealg.MaxLen"], loops := true, apart := false, narrowed := true }
def FnExactSymbolsOfUptoSaid : Prop := fnExactSymbolsOfUptoRow.holds Try.pinned (OpenSpec.upto fnExactSymbolsOfSpec)

/-- 'laws.FnExactAddScope', WHERE WHAT IT READS IS OF BULK AT MOST 1048576: true; the input reads as it did. -/
def fnExactAddScopeUptoRow : OpenClaim := { program := "ytiopophoioiafaa", sum := "ed60714fc4e649e07fb6afb498ef7c7e1c78c31356cc15c765502409adc9ce40", func := "loop.example/g03220/laws.FnExactAddScope", spec := "fnExactAddScope", inPlace := ["internal/bytealg.IndexByteString", "internal/bytealg.IndexString"], unfollowed := true, recurses := true, named := ["internal/bytealg.MaxLen"], loops := true, apart := false, narrowed := true }
def FnExactAddScopeUptoSaid : Prop := fnExactAddScopeUptoRow.holds Try.pinned (OpenSpec.upto fnExactAddScopeSpec)

/-- 'laws.FnExactFlipScope', WHERE WHAT IT READS IS OF BULK AT MOST 1048576: true; the input reads as it did. -/
def fnExactFlipScopeUptoRow : OpenClaim := { program := "ytiopophoioiafaa", sum := "ed60714fc4e649e07fb6afb498ef7c7e1c78c31356cc15c765502409adc9ce40", func := "loop.example/g03220/laws.FnExactFlipScope", spec := "fnExactFlipScope", inPlace := ["internal/bytealg.IndexByteString", "internal/bytealg.IndexString"], unfollowed := true, recurses := true, named := ["internal/bytealg.MaxLen"], loops := true, apart := false, narrowed := true }
def FnExactFlipScopeUptoSaid : Prop := fnExactFlipScopeUptoRow.holds Try.pinned (OpenSpec.upto fnExactFlipScopeSpec)

/-- 'laws.FnExactStripUses', WHERE WHAT IT READS IS OF BULK AT MOST 1048576: true; the input reads as it did. -/
def fnExactStripUsesUptoRow : OpenClaim := { program := "ytiopophoioiafaa", sum := "ed60714fc4e649e07fb6afb498ef7c7e1c78c31356cc15c765502409adc9ce40", func := "loop.example/g03220/laws.FnExactStripUses", spec := "fnExactStripUses", inPlace := ["internal/bytealg.IndexByteString", "internal/bytealg.IndexString"], unfollowed := true, recurses := true, named := ["internal/bytealg.MaxLen"], loops := true, apart := false, narrowed := true }
def FnExactStripUsesUptoSaid : Prop := fnExactStripUsesUptoRow.holds Try.pinned (OpenSpec.upto fnExactStripUsesSpec)

/-- 'laws.FnExactIdentifiersIn', WHERE WHAT IT READS IS OF BULK AT MOST 1048576: true; the input reads as it did. -/
def fnExactIdentifiersInUptoRow : OpenClaim := { program := "ytiopophoioiafaa", sum := "ed60714fc4e649e07fb6afb498ef7c7e1c78c31356cc15c765502409adc9ce40", func := "loop.example/g03220/laws.FnExactIdentifiersIn", spec := "fnExactIdentifiersIn", inPlace := ["internal/bytealg.IndexByteString", "internal/bytealg.IndexString"], unfollowed := true, recurses := true, named := ["internal/bytealg.MaxLen"], loops := true, apart := false, narrowed := true }
def FnExactIdentifiersInUptoSaid : Prop := fnExactIdentifiersInUptoRow.holds Try.pinned (OpenSpec.upto fnExactIdentifiersInSpec)

/-- 'laws.FnExactFormNames', WHERE WHAT IT READS IS OF BULK AT MOST 1048576: true; the input reads as it did. -/
def fnExactFormNamesUptoRow : OpenClaim := { program := "ytiopophoioiafaa", sum := "ed60714fc4e649e07fb6afb498ef7c7e1c78c31356cc15c765502409adc9ce40", func := "loop.example/g03220/laws.FnExactFormNames", spec := "fnExactFormNames", apart := false, narrowed := true }
def FnExactFormNamesUptoSaid : Prop := fnExactFormNamesUptoRow.holds Try.pinned (OpenSpec.upto fnExactFormNamesSpec)

/-- 'laws.FnExactPrimitiveNames', WHERE WHAT IT READS IS OF BULK AT MOST 1048576: true; the input reads as it did. -/
def fnExactPrimitiveNamesUptoRow : OpenClaim := { program := "ytiopophoioiafaa", sum := "ed60714fc4e649e07fb6afb498ef7c7e1c78c31356cc15c765502409adc9ce40", func := "loop.example/g03220/laws.FnExactPrimitiveNames", spec := "fnExactPrimitiveNames", apart := false, narrowed := true }
def FnExactPrimitiveNamesUptoSaid : Prop := fnExactPrimitiveNamesUptoRow.holds Try.pinned (OpenSpec.upto fnExactPrimitiveNamesSpec)

/-- 'laws.FnExactIsBinding', WHERE WHAT IT READS IS OF BULK AT MOST 1048576: true; the input reads as it did. -/
def fnExactIsBindingUptoRow : OpenClaim := { program := "ytiopophoioiafaa", sum := "ed60714fc4e649e07fb6afb498ef7c7e1c78c31356cc15c765502409adc9ce40", func := "loop.example/g03220/laws.FnExactIsBinding", spec := "fnExactIsBinding", inPlace := ["internal/bytealg.IndexByteString", "internal/bytealg.IndexString"], named := ["internal/bytealg.MaxLen"], apart := false, narrowed := true }
def FnExactIsBindingUptoSaid : Prop := fnExactIsBindingUptoRow.holds Try.pinned (OpenSpec.upto fnExactIsBindingSpec)

/-- 'laws.FnExactAreBindings', WHERE WHAT IT READS IS OF BULK AT MOST 1048576: true; the input reads as it did. -/
def fnExactAreBindingsUptoRow : OpenClaim := { program := "ytiopophoioiafaa", sum := "ed60714fc4e649e07fb6afb498ef7c7e1c78c31356cc15c765502409adc9ce40", func := "loop.example/g03220/laws.FnExactAreBindings", spec := "fnExactAreBindings", inPlace := ["internal/bytealg.IndexByteString", "internal/bytealg.IndexString"], unfollowed := true, recurses := true, named := ["internal/bytealg.MaxLen"], apart := false, narrowed := true }
def FnExactAreBindingsUptoSaid : Prop := fnExactAreBindingsUptoRow.holds Try.pinned (OpenSpec.upto fnExactAreBindingsSpec)

/-- 'laws.FnExactAddBinding', WHERE WHAT IT READS IS OF BULK AT MOST 1048576: true; the input reads as it did. -/
def fnExactAddBindingUptoRow : OpenClaim := { program := "ytiopophoioiafaa", sum := "ed60714fc4e649e07fb6afb498ef7c7e1c78c31356cc15c765502409adc9ce40", func := "loop.example/g03220/laws.FnExactAddBinding", spec := "fnExactAddBinding", inPlace := ["internal/bytealg.IndexByteString", "internal/bytealg.IndexString"], unfollowed := true, recurses := true, named := ["internal/bytealg.MaxLen"], apart := false, narrowed := true }
def FnExactAddBindingUptoSaid : Prop := fnExactAddBindingUptoRow.holds Try.pinned (OpenSpec.upto fnExactAddBindingSpec)

/-- 'laws.FnExactCoreBindings', WHERE WHAT IT READS IS OF BULK AT MOST 1048576: true; the input reads as it did. -/
def fnExactCoreBindingsUptoRow : OpenClaim := { program := "ytiopophoioiafaa", sum := "ed60714fc4e649e07fb6afb498ef7c7e1c78c31356cc15c765502409adc9ce40", func := "loop.example/g03220/laws.FnExactCoreBindings", spec := "fnExactCoreBindings", apart := false, narrowed := true }
def FnExactCoreBindingsUptoSaid : Prop := fnExactCoreBindingsUptoRow.holds Try.pinned (OpenSpec.upto fnExactCoreBindingsSpec)

/-- 'laws.FnExactCandidates', WHERE WHAT IT READS IS OF BULK AT MOST 1048576: true; the input reads as it did. -/
def fnExactCandidatesUptoRow : OpenClaim := { program := "ytiopophoioiafaa", sum := "ed60714fc4e649e07fb6afb498ef7c7e1c78c31356cc15c765502409adc9ce40", func := "loop.example/g03220/laws.FnExactCandidates", spec := "fnExactCandidates", inPlace := ["internal/bytealg.IndexByteString", "internal/bytealg.IndexString"], unfollowed := true, recurses := true, named := ["internal/bytealg.MaxLen"], loops := true, apart := false, narrowed := true }
def FnExactCandidatesUptoSaid : Prop := fnExactCandidatesUptoRow.holds Try.pinned (OpenSpec.upto fnExactCandidatesSpec)

/-- 'laws.FnExactResolve', WHERE WHAT IT READS IS OF BULK AT MOST 1048576: true; the input reads as it did. -/
def fnExactResolveUptoRow : OpenClaim := { program := "ytiopophoioiafaa", sum := "ed60714fc4e649e07fb6afb498ef7c7e1c78c31356cc15c765502409adc9ce40", func := "loop.example/g03220/laws.FnExactResolve", spec := "fnExactResolve", inPlace := ["internal/bytealg.IndexByteString", "internal/bytealg.IndexString"], unfollowed := true, recurses := true, named := ["internal/bytealg.MaxLen"], loops := true, apart := false, narrowed := true }
def FnExactResolveUptoSaid : Prop := fnExactResolveUptoRow.holds Try.pinned (OpenSpec.upto fnExactResolveSpec)

/-- 'laws.FnExactSameMeaning', WHERE WHAT IT READS IS OF BULK AT MOST 1048576: true; the input reads as it did. -/
def fnExactSameMeaningUptoRow : OpenClaim := { program := "ytiopophoioiafaa", sum := "ed60714fc4e649e07fb6afb498ef7c7e1c78c31356cc15c765502409adc9ce40", func := "loop.example/g03220/laws.FnExactSameMeaning", spec := "fnExactSameMeaning", inPlace := ["internal/bytealg.IndexByteString", "internal/bytealg.IndexString"], unfollowed := true, recurses := true, named := ["internal/bytealg.MaxLen"], loops := true, apart := false, narrowed := true }
def FnExactSameMeaningUptoSaid : Prop := fnExactSameMeaningUptoRow.holds Try.pinned (OpenSpec.upto fnExactSameMeaningSpec)

/-- 'laws.FnExactEqualBindings', WHERE WHAT IT READS IS OF BULK AT MOST 1048576: true; the input reads as it did. -/
def fnExactEqualBindingsUptoRow : OpenClaim := { program := "ytiopophoioiafaa", sum := "ed60714fc4e649e07fb6afb498ef7c7e1c78c31356cc15c765502409adc9ce40", func := "loop.example/g03220/laws.FnExactEqualBindings", spec := "fnExactEqualBindings", unfollowed := true, recurses := true, apart := false, narrowed := true }
def FnExactEqualBindingsUptoSaid : Prop := fnExactEqualBindingsUptoRow.holds Try.pinned (OpenSpec.upto fnExactEqualBindingsSpec)

end Rows
end Go.Proofs.Ytiopophoioiafaa
