/-
  DERIVED. GIVEN WITH THE SEED: THE CARDS: each row of YtaengcbjpniclaaGreatDoorRows.lean that lists a variable, with what it lists TIED to the program's text (the seventh form; the later family's looks); each row that meets fmt, with fmt's text TOLD by the authors' own Lean function (tested against real Go, not proved from fmt's source: count such statements apart). THE CARD IS WHAT COUNTS. Prove the row's statement (the work); the ties are given (YtaengcbjpniclaaGreatDoorTie.lean); close each card by the builder's one call (the guide's Derived/Test/ToyasCard.lean, 'card_holds'). Laid BY PROGRAM, IN A SANDBOX (cutbox-door.mjs). By AI agents, Wed Nov 11 2026. No macro, syntax, notation, axiom, sorry.
-/
import Derived.Test.YtaengcbjpniclaaGreatDoorRows
import GoSem.ClaimSeven
namespace Go.Proofs.YtaengcbjpniclaaGreatDoor
namespace Rows

/-- THE TIED CARD OF 'treatylaw05.LexerJoin'. -/
def lexerJoinCard : Claim7 := { stood := { row := lexerJoinRow, standIns := [], harness := (true, "343557896478beadb3245ae6d50c71c7f5231925d5facb2fd6737c6327269716"), looks := true }, kinds := [], alts := [], laidByText := true, laidKinds := [.data, .data, .data, .data, .sentinel, .sentinel], laidTests := true, laidLooks := .later }
def LexerJoinCardSaid : Prop := Claim7.holds Tryz.pinned (.plain (OpenSpec.ofChange lexerJoinSpec)) lexerJoinCard

/-- THE TIED CARD OF 'treatylaw05.LexerOnce'. -/
def lexerOnceCard : Claim7 := { stood := { row := lexerOnceRow, standIns := [], harness := (true, "343557896478beadb3245ae6d50c71c7f5231925d5facb2fd6737c6327269716"), looks := true }, kinds := [], alts := [], laidByText := true, laidKinds := [.data, .data, .data, .data, .sentinel, .sentinel], laidTests := true, laidLooks := .later }
def LexerOnceCardSaid : Prop := Claim7.holds Tryz.pinned (.plain (OpenSpec.ofChange lexerOnceSpec)) lexerOnceCard

/-- THE SECOND FORM's CARD OF 'treatylaw05.LexerJoin'. -/
def lexerJoinUptoCard : Claim7 := { stood := { row := lexerJoinUptoRow, standIns := [], harness := (true, "343557896478beadb3245ae6d50c71c7f5231925d5facb2fd6737c6327269716"), looks := true }, kinds := [], alts := [], laidByText := true, laidKinds := [.data, .data, .data, .data, .sentinel, .sentinel], laidTests := true, laidLooks := .later }
def LexerJoinUptoCardSaid : Prop := Claim7.holds Tryz.pinned (.plain (OpenSpec.upto lexerJoinSpec)) lexerJoinUptoCard

/-- THE SECOND FORM's CARD OF 'treatylaw05.LexerOnce'. -/
def lexerOnceUptoCard : Claim7 := { stood := { row := lexerOnceUptoRow, standIns := [], harness := (true, "343557896478beadb3245ae6d50c71c7f5231925d5facb2fd6737c6327269716"), looks := true }, kinds := [], alts := [], laidByText := true, laidKinds := [.data, .data, .data, .data, .sentinel, .sentinel], laidTests := true, laidLooks := .later }
def LexerOnceUptoCardSaid : Prop := Claim7.holds Tryz.pinned (.plain (OpenSpec.upto lexerOnceSpec)) lexerOnceUptoCard
end Rows
end Go.Proofs.YtaengcbjpniclaaGreatDoor
