/-
  NARROWER THAN 'FOR EVERY INPUT', by the rows' own cells (each row's printed sentence says how): FnExactEqualImages: loops · FnExactIsImage: loops · FnExactStackDepths: loops.
  DERIVED. THE GIVEN ROWS OF THIS SEAT. 4 by the template 'for every input the law returns true; each argument reads behind the call as it read before'; 0 by the template 'total and deterministic' (their statements: YtpigpncbjckbcaaTotals.lean).
  GIVEN WITH THE SEED: the statements are not yours to turn. If you find one false, say at which input.
  Laid BY PROGRAM, IN A SANDBOX (cutbox-rows.mjs): the forced cells as the released guide's own fill.sh prints them over the translation a54c2c44bdad896b… (all of the seat's roots in one cut). By AI agents, Wed Nov 11 2026. No macro, syntax, notation, axiom, sorry.
-/
import Derived.Test.YtpigpncbjckbcaaChecked
import GoSem.Claim
import GoSem.ClaimJoined
import GoSem.ClaimMapViews
import Derived.JoinedTies
import Derived.KernelRfl
namespace Go.Proofs.Ytpigpncbjckbcaa
/- THE CELL 'sum', in the pinned program and in every row, IS THE sha256 OF THE DUMP (.gsa) THAT YtpigpncbjckbcaaProg.lean LOADS. Nothing in Lean hashes anything: it is a label: what it is worth is what the hold of that sum in a sandbox is worth. -/
noncomputable def Try.pinned : Pinned := { name := "ytpigpncbjckbcaa", sum := "a54c2c44bdad896ba7cc4e0d28d19f65b5d81ecc884e1eac011eb3abd7134a66", checked := Try.checked }
namespace Rows
def none {H : Type} : Left H := { results := [], args := [] }

/-- 'laws.FnExactOpName': WHATEVER THE INPUT: true; the input reads as it did. -/
def fnExactOpNameSpec : ChangeSpec := { name := "fnExactOpName", fn := fun _ => fun
  | [d] => { results := [.lit (.bool true)], args := [d] }
  | _ => none }
def fnExactOpNameRow : OpenClaim := { program := "ytpigpncbjckbcaa", sum := "a54c2c44bdad896ba7cc4e0d28d19f65b5d81ecc884e1eac011eb3abd7134a66", func := "loop.example/g03220/laws.FnExactOpName", spec := "fnExactOpName", apart := false }
def FnExactOpNameSaid : Prop := fnExactOpNameRow.holds Try.pinned (OpenSpec.ofChange fnExactOpNameSpec)

/-- ITS FALSE NEIGHBOUR: 'it returns false'. Refute it at one input. -/
def fnExactOpNameWrong : ChangeSpec := { name := "fnExactOpName", fn := fun _ => fun
  | [d] => { results := [.lit (.bool false)], args := [d] }
  | _ => none }
def FnExactOpNameWrongFalsely : Prop := fnExactOpNameRow.holds Try.pinned (OpenSpec.ofChange fnExactOpNameWrong)

/-- 'laws.FnExactEqualImages': WHATEVER THE INPUT: true; the input reads as it did. -/
def fnExactEqualImagesSpec : ChangeSpec := { name := "fnExactEqualImages", fn := fun _ => fun
  | [d1, d2] => { results := [.lit (.bool true)], args := [d1, d2] }
  | _ => none }
def fnExactEqualImagesRow : OpenClaim := { program := "ytpigpncbjckbcaa", sum := "a54c2c44bdad896ba7cc4e0d28d19f65b5d81ecc884e1eac011eb3abd7134a66", func := "loop.example/g03220/laws.FnExactEqualImages", spec := "fnExactEqualImages", unfollowed := true, recurses := true, loops := true, apart := false }
def FnExactEqualImagesSaid : Prop := fnExactEqualImagesRow.holds Try.pinned (OpenSpec.ofChange fnExactEqualImagesSpec)

/-- ITS FALSE NEIGHBOUR: 'it returns false'. Refute it at one input. -/
def fnExactEqualImagesWrong : ChangeSpec := { name := "fnExactEqualImages", fn := fun _ => fun
  | [d1, d2] => { results := [.lit (.bool false)], args := [d1, d2] }
  | _ => none }
def FnExactEqualImagesWrongFalsely : Prop := fnExactEqualImagesRow.holds Try.pinned (OpenSpec.ofChange fnExactEqualImagesWrong)

/-- 'laws.FnExactIsImage': WHATEVER THE INPUT: true; the input reads as it did. -/
def fnExactIsImageSpec : ChangeSpec := { name := "fnExactIsImage", fn := fun _ => fun
  | [d1, d2] => { results := [.lit (.bool true)], args := [d1, d2] }
  | _ => none }
def fnExactIsImageRow : OpenClaim := { program := "ytpigpncbjckbcaa", sum := "a54c2c44bdad896ba7cc4e0d28d19f65b5d81ecc884e1eac011eb3abd7134a66", func := "loop.example/g03220/laws.FnExactIsImage", spec := "fnExactIsImage", inPlace := ["internal/bytealg.IndexByteString", "internal/bytealg.IndexString"], unfollowed := true, recurses := true, named := ["internal/bytealg.MaxLen"], loops := true, apart := false }
def FnExactIsImageSaid : Prop := fnExactIsImageRow.holds Try.pinned (OpenSpec.ofChange fnExactIsImageSpec)

/-- ITS FALSE NEIGHBOUR: 'it returns false'. Refute it at one input. -/
def fnExactIsImageWrong : ChangeSpec := { name := "fnExactIsImage", fn := fun _ => fun
  | [d1, d2] => { results := [.lit (.bool false)], args := [d1, d2] }
  | _ => none }
def FnExactIsImageWrongFalsely : Prop := fnExactIsImageRow.holds Try.pinned (OpenSpec.ofChange fnExactIsImageWrong)

/-- 'laws.FnExactStackDepths': WHATEVER THE INPUT: true; the input reads as it did. -/
def fnExactStackDepthsSpec : ChangeSpec := { name := "fnExactStackDepths", fn := fun _ => fun
  | [d1, d2] => { results := [.lit (.bool true)], args := [d1, d2] }
  | _ => none }
def fnExactStackDepthsRow : OpenClaim := { program := "ytpigpncbjckbcaa", sum := "a54c2c44bdad896ba7cc4e0d28d19f65b5d81ecc884e1eac011eb3abd7134a66", func := "loop.example/g03220/laws.FnExactStackDepths", spec := "fnExactStackDepths", inPlace := ["internal/bytealg.IndexByteString", "internal/bytealg.IndexString"], unfollowed := true, recurses := true, named := ["internal/bytealg.MaxLen"], loops := true, apart := false }
def FnExactStackDepthsSaid : Prop := fnExactStackDepthsRow.holds Try.pinned (OpenSpec.ofChange fnExactStackDepthsSpec)

/-- ITS FALSE NEIGHBOUR: 'it returns false'. Refute it at one input. -/
def fnExactStackDepthsWrong : ChangeSpec := { name := "fnExactStackDepths", fn := fun _ => fun
  | [d1, d2] => { results := [.lit (.bool false)], args := [d1, d2] }
  | _ => none }
def FnExactStackDepthsWrongFalsely : Prop := fnExactStackDepthsRow.holds Try.pinned (OpenSpec.ofChange fnExactStackDepthsWrong)

/- THE SECOND FORM. 'bulk': how many values and letters a reading holds, each counted each time it is reached (what is shared counts as often as it is met; a slice's spare places count too). A statement '..UptoSaid' is the law's where the arguments, and the package variables that the reading takes, are together of bulk at most 1048576: NARROWER than '..Said'. Prove '..Said' where nothing that the law and all that it calls make is longer than what came in: it says more and counts as full. Else prove '..UptoSaid'. A law counts once. -/
mutual
def uptoBulk {H : Type} : DataW H → Nat
  | .lit (.string bytes) => bytes.length + 1
  | .lit _ => 1
  | .nil => 1
  | .ptr d => uptoBulk d + 1
  | .slice elems spare => uptoBulkAll elems + uptoBulkAll spare + 1
  | .agg parts => uptoBulkAll parts + 1
  | .iface _ d => uptoBulk d + 1
  | .map entries => uptoBulkEntries entries + 1
  | .held _ => 1
def uptoBulkAll {H : Type} : List (DataW H) → Nat
  | [] => 0
  | d :: r => uptoBulk d + uptoBulkAll r
def uptoBulkEntries {H : Type} : List (Lit × DataW H) → Nat
  | [] => 0
  | x :: r => uptoBulkEntry x + uptoBulkEntries r
def uptoBulkEntry {H : Type} : Lit × DataW H → Nat
  | (.string bytes, d) => bytes.length + uptoBulk d + 1
  | (_, d) => uptoBulk d + 1
 end
def uptoSmall : (H : Type) → List (DataW H) → Bool := fun _ ds => decide (uptoBulkAll ds ≤ 1048576)
def OpenSpec.upto (s : _root_.Go.ChangeSpec) : _root_.Go.OpenSpec := { _root_.Go.OpenSpec.ofChange s with cond := some uptoSmall }

/-- 'laws.FnExactOpName', WHERE WHAT IT READS IS OF BULK AT MOST 1048576: true; the input reads as it did. -/
def fnExactOpNameUptoRow : OpenClaim := { program := "ytpigpncbjckbcaa", sum := "a54c2c44bdad896ba7cc4e0d28d19f65b5d81ecc884e1eac011eb3abd7134a66", func := "loop.example/g03220/laws.FnExactOpName", spec := "fnExactOpName", apart := false, narrowed := true }
def FnExactOpNameUptoSaid : Prop := fnExactOpNameUptoRow.holds Try.pinned (OpenSpec.upto fnExactOpNameSpec)

/-- 'laws.FnExactEqualImages', WHERE WHAT IT READS IS OF BULK AT MOST 1048576: true; the input reads as it did. -/
def fnExactEqualImagesUptoRow : OpenClaim := { program := "ytpigpncbjckbcaa", sum := "a54c2c44bdad896ba7cc4e0d28d19f65b5d81ecc884e1eac011eb3abd7134a66", func := "loop.example/g03220/laws.FnExactEqualImages", spec := "fnExactEqualImages", unfollowed := true, recurses := true, loops := true, apart := false, narrowed := true }
def FnExactEqualImagesUptoSaid : Prop := fnExactEqualImagesUptoRow.holds Try.pinned (OpenSpec.upto fnExactEqualImagesSpec)

/-- 'laws.FnExactIsImage', WHERE WHAT IT READS IS OF BULK AT MOST 1048576: true; the input reads as it did. -/
def fnExactIsImageUptoRow : OpenClaim := { program := "ytpigpncbjckbcaa", sum := "a54c2c44bdad896ba7cc4e0d28d19f65b5d81ecc884e1eac011eb3abd7134a66", func := "loop.example/g03220/laws.FnExactIsImage", spec := "fnExactIsImage", inPlace := ["internal/bytealg.IndexByteString", "internal/bytealg.IndexString"], unfollowed := true, recurses := true, named := ["internal/bytealg.MaxLen"], loops := true, apart := false, narrowed := true }
def FnExactIsImageUptoSaid : Prop := fnExactIsImageUptoRow.holds Try.pinned (OpenSpec.upto fnExactIsImageSpec)

/-- 'laws.FnExactStackDepths', WHERE WHAT IT READS IS OF BULK AT MOST 1048576: true; the input reads as it did. -/
def fnExactStackDepthsUptoRow : OpenClaim := { program := "ytpigpncbjckbcaa", sum := "a54c2c44bdad896ba7cc4e0d28d19f65b5d81ecc884e1eac011eb3abd7134a66", func := "loop.example/g03220/laws.FnExactStackDepths", spec := "fnExactStackDepths", inPlace := ["internal/bytealg.IndexByteString", "internal/bytealg.IndexString"], unfollowed := true, recurses := true, named := ["internal/bytealg.MaxLen"], loops := true, apart := false, narrowed := true }
def FnExactStackDepthsUptoSaid : Prop := fnExactStackDepthsUptoRow.holds Try.pinned (OpenSpec.upto fnExactStackDepthsSpec)

end Rows
end Go.Proofs.Ytpigpncbjckbcaa
