/-
  DERIVED. GIVEN WITH THE SEED: THE CARDS: each row of YtdehldcgakdobaaDoorRows.lean that lists a variable, with what it lists TIED to the program's text (the seventh form; the later family's looks); each row that meets fmt, with fmt's text TOLD by the authors' own Lean function (tested against real Go, not proved from fmt's source: count such statements apart). THE CARD IS WHAT COUNTS. Prove the row's statement (the work); the ties are given (YtdehldcgakdobaaDoorTie.lean); close each card by the builder's one call (the guide's Derived/Test/ToyasCard.lean, 'card_holds'). Laid BY PROGRAM, IN A SANDBOX (cutbox-door.mjs). By AI agents, Wed Nov 11 2026. No macro, syntax, notation, axiom, sorry.
-/
import Derived.Test.YtdehldcgakdobaaDoorRows
import GoSem.ClaimSeven
namespace Go.Proofs.YtdehldcgakdobaaDoor
namespace Rows

/-- THE TIED CARD OF 'treatylaw06.SchemaValid'. -/
def schemaValidCard : Claim7 := { stood := { row := schemaValidRow, standIns := [], harness := (true, "bd72b5b486def4abd760cb800d8397910d952cdba8b42bd8bb5f7102287bc3fa"), looks := false }, kinds := [], alts := [], laidByText := true, laidKinds := [.data, .data, .data], laidTests := true, laidLooks := .later }
def SchemaValidCardSaid : Prop := Claim7.holds Tryd.pinned (.plain (OpenSpec.ofChange schemaValidSpec)) schemaValidCard

/-- THE TIED CARD OF 'treatylaw06.SchemaFacts'. -/
def schemaFactsCard : Claim7 := { stood := { row := schemaFactsRow, standIns := [], harness := (true, "bd72b5b486def4abd760cb800d8397910d952cdba8b42bd8bb5f7102287bc3fa"), looks := false }, kinds := [], alts := [], laidByText := true, laidKinds := [.data, .data, .data], laidTests := true, laidLooks := .later }
def SchemaFactsCardSaid : Prop := Claim7.holds Tryd.pinned (.plain (OpenSpec.ofChange schemaFactsSpec)) schemaFactsCard

/-- THE TIED CARD OF 'treatylaw06.SchemaFormat'. -/
def schemaFormatCard : Claim7 := { stood := { row := schemaFormatRow, standIns := [], harness := (true, "bd72b5b486def4abd760cb800d8397910d952cdba8b42bd8bb5f7102287bc3fa"), looks := false }, kinds := [], alts := [], laidByText := true, laidKinds := [.data, .data, .data], laidTests := true, laidLooks := .later }
def SchemaFormatCardSaid : Prop := Claim7.holds Tryd.pinned (.plain (OpenSpec.ofChange schemaFormatSpec)) schemaFormatCard

/-- THE SECOND FORM's CARD OF 'treatylaw06.SchemaValid'. -/
def schemaValidUptoCard : Claim7 := { stood := { row := schemaValidUptoRow, standIns := [], harness := (true, "bd72b5b486def4abd760cb800d8397910d952cdba8b42bd8bb5f7102287bc3fa"), looks := false }, kinds := [], alts := [], laidByText := true, laidKinds := [.data, .data, .data], laidTests := true, laidLooks := .later }
def SchemaValidUptoCardSaid : Prop := Claim7.holds Tryd.pinned (.plain (OpenSpec.upto schemaValidSpec)) schemaValidUptoCard

/-- THE SECOND FORM's CARD OF 'treatylaw06.SchemaFacts'. -/
def schemaFactsUptoCard : Claim7 := { stood := { row := schemaFactsUptoRow, standIns := [], harness := (true, "bd72b5b486def4abd760cb800d8397910d952cdba8b42bd8bb5f7102287bc3fa"), looks := false }, kinds := [], alts := [], laidByText := true, laidKinds := [.data, .data, .data], laidTests := true, laidLooks := .later }
def SchemaFactsUptoCardSaid : Prop := Claim7.holds Tryd.pinned (.plain (OpenSpec.upto schemaFactsSpec)) schemaFactsUptoCard

/-- THE SECOND FORM's CARD OF 'treatylaw06.SchemaFormat'. -/
def schemaFormatUptoCard : Claim7 := { stood := { row := schemaFormatUptoRow, standIns := [], harness := (true, "bd72b5b486def4abd760cb800d8397910d952cdba8b42bd8bb5f7102287bc3fa"), looks := false }, kinds := [], alts := [], laidByText := true, laidKinds := [.data, .data, .data], laidTests := true, laidLooks := .later }
def SchemaFormatUptoCardSaid : Prop := Claim7.holds Tryd.pinned (.plain (OpenSpec.upto schemaFormatSpec)) schemaFormatUptoCard
end Rows
end Go.Proofs.YtdehldcgakdobaaDoor
