/-
  DERIVED. GIVEN WITH THE SEED: THE CARDS: each row of YtjgpekfnfmabbaaDoorRows.lean that lists a variable, with what it lists TIED to the program's text (the seventh form; the later family's looks); each row that meets fmt, with fmt's text TOLD by the authors' own Lean function (tested against real Go, not proved from fmt's source: count such statements apart). THE CARD IS WHAT COUNTS. Prove the row's statement (the work); the ties are given (YtjgpekfnfmabbaaDoorTie.lean); close each card by the builder's one call (the guide's Derived/Test/ToyasCard.lean, 'card_holds'). Laid BY PROGRAM, IN A SANDBOX (cutbox-door.mjs). By AI agents, Wed Nov 11 2026. No macro, syntax, notation, axiom, sorry.
-/
import Derived.Test.YtjgpekfnfmabbaaDoorRows
import GoSem.ClaimSeven
namespace Go.Proofs.YtjgpekfnfmabbaaDoor
namespace Rows

/-- THE TIED CARD OF 'laws.FnExactFormatDatum'. -/
def fnExactFormatDatumCard : Claim7 := { stood := { row := fnExactFormatDatumRow, standIns := [], harness := (true, "ba4fc29488e65bb4dc87620cd0e8483c22532af0dbaea67f642c9a597da29d44"), looks := false }, kinds := [], alts := [], laidByText := true, laidKinds := [.data, .data, .data], laidTests := true, laidLooks := .later }
def FnExactFormatDatumCardSaid : Prop := Claim7.holds Tryd.pinned (.plain (OpenSpec.ofChange fnExactFormatDatumSpec)) fnExactFormatDatumCard

/-- THE TIED CARD OF 'laws.FnExactFormatData'. -/
def fnExactFormatDataCard : Claim7 := { stood := { row := fnExactFormatDataRow, standIns := [], harness := (true, "ba4fc29488e65bb4dc87620cd0e8483c22532af0dbaea67f642c9a597da29d44"), looks := false }, kinds := [], alts := [], laidByText := true, laidKinds := [.data, .data, .data], laidTests := true, laidLooks := .later }
def FnExactFormatDataCardSaid : Prop := Claim7.holds Tryd.pinned (.plain (OpenSpec.ofChange fnExactFormatDataSpec)) fnExactFormatDataCard

/-- THE TIED CARD OF 'laws.FnExactFormatSyntax'. -/
def fnExactFormatSyntaxCard : Claim7 := { stood := { row := fnExactFormatSyntaxRow, standIns := [], harness := (true, "ba4fc29488e65bb4dc87620cd0e8483c22532af0dbaea67f642c9a597da29d44"), looks := false }, kinds := [], alts := [], laidByText := true, laidKinds := [.data, .data, .data], laidTests := true, laidLooks := .later }
def FnExactFormatSyntaxCardSaid : Prop := Claim7.holds Tryd.pinned (.plain (OpenSpec.ofChange fnExactFormatSyntaxSpec)) fnExactFormatSyntaxCard

/-- THE TIED CARD OF 'laws.FnExactFormatBinding'. -/
def fnExactFormatBindingCard : Claim7 := { stood := { row := fnExactFormatBindingRow, standIns := [], harness := (true, "ba4fc29488e65bb4dc87620cd0e8483c22532af0dbaea67f642c9a597da29d44"), looks := false }, kinds := [], alts := [], laidByText := true, laidKinds := [.data, .data, .data], laidTests := true, laidLooks := .later }
def FnExactFormatBindingCardSaid : Prop := Claim7.holds Tryd.pinned (.plain (OpenSpec.ofChange fnExactFormatBindingSpec)) fnExactFormatBindingCard

/-- THE SECOND FORM's CARD OF 'laws.FnExactFormatDatum'. -/
def fnExactFormatDatumUptoCard : Claim7 := { stood := { row := fnExactFormatDatumUptoRow, standIns := [], harness := (true, "ba4fc29488e65bb4dc87620cd0e8483c22532af0dbaea67f642c9a597da29d44"), looks := false }, kinds := [], alts := [], laidByText := true, laidKinds := [.data, .data, .data], laidTests := true, laidLooks := .later }
def FnExactFormatDatumUptoCardSaid : Prop := Claim7.holds Tryd.pinned (.plain (OpenSpec.upto fnExactFormatDatumSpec)) fnExactFormatDatumUptoCard

/-- THE SECOND FORM's CARD OF 'laws.FnExactFormatData'. -/
def fnExactFormatDataUptoCard : Claim7 := { stood := { row := fnExactFormatDataUptoRow, standIns := [], harness := (true, "ba4fc29488e65bb4dc87620cd0e8483c22532af0dbaea67f642c9a597da29d44"), looks := false }, kinds := [], alts := [], laidByText := true, laidKinds := [.data, .data, .data], laidTests := true, laidLooks := .later }
def FnExactFormatDataUptoCardSaid : Prop := Claim7.holds Tryd.pinned (.plain (OpenSpec.upto fnExactFormatDataSpec)) fnExactFormatDataUptoCard

/-- THE SECOND FORM's CARD OF 'laws.FnExactFormatSyntax'. -/
def fnExactFormatSyntaxUptoCard : Claim7 := { stood := { row := fnExactFormatSyntaxUptoRow, standIns := [], harness := (true, "ba4fc29488e65bb4dc87620cd0e8483c22532af0dbaea67f642c9a597da29d44"), looks := false }, kinds := [], alts := [], laidByText := true, laidKinds := [.data, .data, .data], laidTests := true, laidLooks := .later }
def FnExactFormatSyntaxUptoCardSaid : Prop := Claim7.holds Tryd.pinned (.plain (OpenSpec.upto fnExactFormatSyntaxSpec)) fnExactFormatSyntaxUptoCard

/-- THE SECOND FORM's CARD OF 'laws.FnExactFormatBinding'. -/
def fnExactFormatBindingUptoCard : Claim7 := { stood := { row := fnExactFormatBindingUptoRow, standIns := [], harness := (true, "ba4fc29488e65bb4dc87620cd0e8483c22532af0dbaea67f642c9a597da29d44"), looks := false }, kinds := [], alts := [], laidByText := true, laidKinds := [.data, .data, .data], laidTests := true, laidLooks := .later }
def FnExactFormatBindingUptoCardSaid : Prop := Claim7.holds Tryd.pinned (.plain (OpenSpec.upto fnExactFormatBindingSpec)) fnExactFormatBindingUptoCard
end Rows
end Go.Proofs.YtjgpekfnfmabbaaDoor
