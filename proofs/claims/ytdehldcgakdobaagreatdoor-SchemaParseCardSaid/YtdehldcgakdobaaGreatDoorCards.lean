/-
  DERIVED. GIVEN WITH THE SEED: THE CARDS: each row of YtdehldcgakdobaaGreatDoorRows.lean that lists a variable, with what it lists TIED to the program's text (the seventh form; the later family's looks); each row that meets fmt, with fmt's text TOLD by the authors' own Lean function (tested against real Go, not proved from fmt's source: count such statements apart). THE CARD IS WHAT COUNTS. Prove the row's statement (the work); the ties are given (YtdehldcgakdobaaGreatDoorTie.lean); close each card by the builder's one call (the guide's Derived/Test/ToyasCard.lean, 'card_holds'). Laid BY PROGRAM, IN A SANDBOX (cutbox-door.mjs). By AI agents, Wed Nov 11 2026. No macro, syntax, notation, axiom, sorry.
-/
import Derived.Test.YtdehldcgakdobaaGreatDoorRows
import GoSem.ClaimSeven
namespace Go.Proofs.YtdehldcgakdobaaGreatDoor
namespace Rows

/-- THE TIED CARD OF 'treatylaw06.SchemaBack'. -/
def schemaBackCard : Claim7 := { stood := { row := schemaBackRow, standIns := [], harness := (true, "2ee7ef965086a55f9e882d3ab0aa1d3401e0c2dfc40b94dc778e67915a0a71cc"), looks := true }, kinds := [], alts := [], laidByText := true, laidKinds := [.data, .data, .data, .data, .sentinel, .sentinel, .pinned], laidTests := true, laidLooks := .later }
def SchemaBackCardSaid : Prop := Claim7.holds Tryz.pinned (.plain (OpenSpec.ofChange schemaBackSpec)) schemaBackCard

/-- THE TIED CARD OF 'treatylaw06.SchemaParse'. -/
def schemaParseCard : Claim7 := { stood := { row := schemaParseRow, standIns := [], harness := (true, "2ee7ef965086a55f9e882d3ab0aa1d3401e0c2dfc40b94dc778e67915a0a71cc"), looks := true }, kinds := [], alts := [], laidByText := true, laidKinds := [.data, .data, .data, .data, .sentinel, .sentinel, .pinned], laidTests := true, laidLooks := .later }
def SchemaParseCardSaid : Prop := Claim7.holds Tryz.pinned (.plain (OpenSpec.ofChange schemaParseSpec)) schemaParseCard

/-- THE SECOND FORM's CARD OF 'treatylaw06.SchemaBack'. -/
def schemaBackUptoCard : Claim7 := { stood := { row := schemaBackUptoRow, standIns := [], harness := (true, "2ee7ef965086a55f9e882d3ab0aa1d3401e0c2dfc40b94dc778e67915a0a71cc"), looks := true }, kinds := [], alts := [], laidByText := true, laidKinds := [.data, .data, .data, .data, .sentinel, .sentinel, .pinned], laidTests := true, laidLooks := .later }
def SchemaBackUptoCardSaid : Prop := Claim7.holds Tryz.pinned (.plain (OpenSpec.upto schemaBackSpec)) schemaBackUptoCard

/-- THE SECOND FORM's CARD OF 'treatylaw06.SchemaParse'. -/
def schemaParseUptoCard : Claim7 := { stood := { row := schemaParseUptoRow, standIns := [], harness := (true, "2ee7ef965086a55f9e882d3ab0aa1d3401e0c2dfc40b94dc778e67915a0a71cc"), looks := true }, kinds := [], alts := [], laidByText := true, laidKinds := [.data, .data, .data, .data, .sentinel, .sentinel, .pinned], laidTests := true, laidLooks := .later }
def SchemaParseUptoCardSaid : Prop := Claim7.holds Tryz.pinned (.plain (OpenSpec.upto schemaParseSpec)) schemaParseUptoCard
end Rows
end Go.Proofs.YtdehldcgakdobaaGreatDoor
