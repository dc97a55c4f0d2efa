/-
  DERIVED. GIVEN WITH THE SEED: THE CARDS: each row of YtlhgjhdeidhibaaDoorRows.lean that lists a variable, with what it lists TIED to the program's text (the seventh form; the later family's looks); each row that meets fmt, with fmt's text TOLD by the authors' own Lean function (tested against real Go, not proved from fmt's source: count such statements apart). THE CARD IS WHAT COUNTS. Prove the row's statement (the work); the ties are given (YtlhgjhdeidhibaaDoorTie.lean); close each card by the builder's one call (the guide's Derived/Test/ToyasCard.lean, 'card_holds'). Laid BY PROGRAM, IN A SANDBOX (cutbox-door.mjs). By AI agents, Wed Nov 11 2026. No macro, syntax, notation, axiom, sorry.
-/
import Derived.Test.YtlhgjhdeidhibaaDoorRows
import GoSem.ClaimSeven
namespace Go.Proofs.YtlhgjhdeidhibaaDoor
namespace Rows

/-- THE TIED CARD OF 'treatylaw03.CalendarCivil'. -/
def calendarCivilCard : Claim7 := { stood := { row := calendarCivilRow, standIns := [], harness := (true, "9693a124d4c2072d169915f027d7d8f55185add7117b52dce71bde24b569c618"), looks := false }, kinds := [], alts := [], laidByText := true, laidKinds := [.data], laidTests := true, laidLooks := .later }
def CalendarCivilCardSaid : Prop := Claim7.holds Tryd.pinned (.plain (OpenSpec.ofChange calendarCivilSpec)) calendarCivilCard

/-- THE TIED CARD OF 'treatylaw03.CalendarHour'. -/
def calendarHourCard : Claim7 := { stood := { row := calendarHourRow, standIns := [], harness := (true, "9693a124d4c2072d169915f027d7d8f55185add7117b52dce71bde24b569c618"), looks := false }, kinds := [], alts := [], laidByText := true, laidKinds := [.data], laidTests := true, laidLooks := .later }
def CalendarHourCardSaid : Prop := Claim7.holds Tryd.pinned (.plain (OpenSpec.ofChange calendarHourSpec)) calendarHourCard

/-- THE TIED CARD OF 'treatylaw03.CalendarNext'. -/
def calendarNextCard : Claim7 := { stood := { row := calendarNextRow, standIns := [], harness := (true, "9693a124d4c2072d169915f027d7d8f55185add7117b52dce71bde24b569c618"), looks := false }, kinds := [], alts := [], laidByText := true, laidKinds := [.data], laidTests := true, laidLooks := .later }
def CalendarNextCardSaid : Prop := Claim7.holds Tryd.pinned (.plain (OpenSpec.ofChange calendarNextSpec)) calendarNextCard

/-- THE TIED CARD OF 'treatylaw03.CalendarText'. -/
def calendarTextCard : Claim7 := { stood := { row := calendarTextRow, standIns := [], harness := (true, "9693a124d4c2072d169915f027d7d8f55185add7117b52dce71bde24b569c618"), looks := false }, kinds := [], alts := [], laidByText := true, laidKinds := [.data], laidTests := true, laidLooks := .later }
def CalendarTextCardSaid : Prop := Claim7.holds Tryd.pinned (.plain (OpenSpec.ofChange calendarTextSpec)) calendarTextCard

/-- THE TIED CARD OF 'treatylaw03.CalendarParse'. -/
def calendarParseCard : Claim7 := { stood := { row := calendarParseRow, standIns := [], harness := (true, "9693a124d4c2072d169915f027d7d8f55185add7117b52dce71bde24b569c618"), looks := false }, kinds := [], alts := [], laidByText := true, laidKinds := [.data], laidTests := true, laidLooks := .later }
def CalendarParseCardSaid : Prop := Claim7.holds Tryd.pinned (.plain (OpenSpec.ofChange calendarParseSpec)) calendarParseCard

/-- THE TIED CARD OF 'treatylaw03.CalendarMonths'. -/
def calendarMonthsCard : Claim7 := { stood := { row := calendarMonthsRow, standIns := [], harness := (true, "9693a124d4c2072d169915f027d7d8f55185add7117b52dce71bde24b569c618"), looks := false }, kinds := [], alts := [], laidByText := true, laidKinds := [.data], laidTests := true, laidLooks := .later }
def CalendarMonthsCardSaid : Prop := Claim7.holds Tryd.pinned (.plain (OpenSpec.ofChange calendarMonthsSpec)) calendarMonthsCard

/-- THE TIED CARD OF 'treatylaw03.CalendarSteps'. -/
def calendarStepsCard : Claim7 := { stood := { row := calendarStepsRow, standIns := [], harness := (true, "9693a124d4c2072d169915f027d7d8f55185add7117b52dce71bde24b569c618"), looks := false }, kinds := [], alts := [], laidByText := true, laidKinds := [.data], laidTests := true, laidLooks := .later }
def CalendarStepsCardSaid : Prop := Claim7.holds Tryd.pinned (.plain (OpenSpec.ofChange calendarStepsSpec)) calendarStepsCard

/-- THE TIED CARD OF 'treatylaw03.CalendarPeriods'. -/
def calendarPeriodsCard : Claim7 := { stood := { row := calendarPeriodsRow, standIns := [], harness := (true, "9693a124d4c2072d169915f027d7d8f55185add7117b52dce71bde24b569c618"), looks := false }, kinds := [], alts := [], laidByText := true, laidKinds := [.data], laidTests := true, laidLooks := .later }
def CalendarPeriodsCardSaid : Prop := Claim7.holds Tryd.pinned (.plain (OpenSpec.ofChange calendarPeriodsSpec)) calendarPeriodsCard

/-- THE TIED CARD OF 'treatylaw03.CalendarDays'. -/
def calendarDaysCard : Claim7 := { stood := { row := calendarDaysRow, standIns := [], harness := (true, "9693a124d4c2072d169915f027d7d8f55185add7117b52dce71bde24b569c618"), looks := false }, kinds := [], alts := [], laidByText := true, laidKinds := [.data], laidTests := true, laidLooks := .later }
def CalendarDaysCardSaid : Prop := Claim7.holds Tryd.pinned (.plain (OpenSpec.ofChange calendarDaysSpec)) calendarDaysCard

/-- THE TIED CARD OF 'treatylaw03.CalendarYears'. -/
def calendarYearsCard : Claim7 := { stood := { row := calendarYearsRow, standIns := [], harness := (true, "9693a124d4c2072d169915f027d7d8f55185add7117b52dce71bde24b569c618"), looks := false }, kinds := [], alts := [], laidByText := true, laidKinds := [.data], laidTests := true, laidLooks := .later }
def CalendarYearsCardSaid : Prop := Claim7.holds Tryd.pinned (.plain (OpenSpec.ofChange calendarYearsSpec)) calendarYearsCard

/-- THE SECOND FORM's CARD OF 'treatylaw03.CalendarCivil'. -/
def calendarCivilUptoCard : Claim7 := { stood := { row := calendarCivilUptoRow, standIns := [], harness := (true, "9693a124d4c2072d169915f027d7d8f55185add7117b52dce71bde24b569c618"), looks := false }, kinds := [], alts := [], laidByText := true, laidKinds := [.data], laidTests := true, laidLooks := .later }
def CalendarCivilUptoCardSaid : Prop := Claim7.holds Tryd.pinned (.plain (OpenSpec.upto calendarCivilSpec)) calendarCivilUptoCard

/-- THE SECOND FORM's CARD OF 'treatylaw03.CalendarHour'. -/
def calendarHourUptoCard : Claim7 := { stood := { row := calendarHourUptoRow, standIns := [], harness := (true, "9693a124d4c2072d169915f027d7d8f55185add7117b52dce71bde24b569c618"), looks := false }, kinds := [], alts := [], laidByText := true, laidKinds := [.data], laidTests := true, laidLooks := .later }
def CalendarHourUptoCardSaid : Prop := Claim7.holds Tryd.pinned (.plain (OpenSpec.upto calendarHourSpec)) calendarHourUptoCard

/-- THE SECOND FORM's CARD OF 'treatylaw03.CalendarNext'. -/
def calendarNextUptoCard : Claim7 := { stood := { row := calendarNextUptoRow, standIns := [], harness := (true, "9693a124d4c2072d169915f027d7d8f55185add7117b52dce71bde24b569c618"), looks := false }, kinds := [], alts := [], laidByText := true, laidKinds := [.data], laidTests := true, laidLooks := .later }
def CalendarNextUptoCardSaid : Prop := Claim7.holds Tryd.pinned (.plain (OpenSpec.upto calendarNextSpec)) calendarNextUptoCard

/-- THE SECOND FORM's CARD OF 'treatylaw03.CalendarText'. -/
def calendarTextUptoCard : Claim7 := { stood := { row := calendarTextUptoRow, standIns := [], harness := (true, "9693a124d4c2072d169915f027d7d8f55185add7117b52dce71bde24b569c618"), looks := false }, kinds := [], alts := [], laidByText := true, laidKinds := [.data], laidTests := true, laidLooks := .later }
def CalendarTextUptoCardSaid : Prop := Claim7.holds Tryd.pinned (.plain (OpenSpec.upto calendarTextSpec)) calendarTextUptoCard

/-- THE SECOND FORM's CARD OF 'treatylaw03.CalendarParse'. -/
def calendarParseUptoCard : Claim7 := { stood := { row := calendarParseUptoRow, standIns := [], harness := (true, "9693a124d4c2072d169915f027d7d8f55185add7117b52dce71bde24b569c618"), looks := false }, kinds := [], alts := [], laidByText := true, laidKinds := [.data], laidTests := true, laidLooks := .later }
def CalendarParseUptoCardSaid : Prop := Claim7.holds Tryd.pinned (.plain (OpenSpec.upto calendarParseSpec)) calendarParseUptoCard

/-- THE SECOND FORM's CARD OF 'treatylaw03.CalendarMonths'. -/
def calendarMonthsUptoCard : Claim7 := { stood := { row := calendarMonthsUptoRow, standIns := [], harness := (true, "9693a124d4c2072d169915f027d7d8f55185add7117b52dce71bde24b569c618"), looks := false }, kinds := [], alts := [], laidByText := true, laidKinds := [.data], laidTests := true, laidLooks := .later }
def CalendarMonthsUptoCardSaid : Prop := Claim7.holds Tryd.pinned (.plain (OpenSpec.upto calendarMonthsSpec)) calendarMonthsUptoCard

/-- THE SECOND FORM's CARD OF 'treatylaw03.CalendarSteps'. -/
def calendarStepsUptoCard : Claim7 := { stood := { row := calendarStepsUptoRow, standIns := [], harness := (true, "9693a124d4c2072d169915f027d7d8f55185add7117b52dce71bde24b569c618"), looks := false }, kinds := [], alts := [], laidByText := true, laidKinds := [.data], laidTests := true, laidLooks := .later }
def CalendarStepsUptoCardSaid : Prop := Claim7.holds Tryd.pinned (.plain (OpenSpec.upto calendarStepsSpec)) calendarStepsUptoCard

/-- THE SECOND FORM's CARD OF 'treatylaw03.CalendarPeriods'. -/
def calendarPeriodsUptoCard : Claim7 := { stood := { row := calendarPeriodsUptoRow, standIns := [], harness := (true, "9693a124d4c2072d169915f027d7d8f55185add7117b52dce71bde24b569c618"), looks := false }, kinds := [], alts := [], laidByText := true, laidKinds := [.data], laidTests := true, laidLooks := .later }
def CalendarPeriodsUptoCardSaid : Prop := Claim7.holds Tryd.pinned (.plain (OpenSpec.upto calendarPeriodsSpec)) calendarPeriodsUptoCard

/-- THE SECOND FORM's CARD OF 'treatylaw03.CalendarDays'. -/
def calendarDaysUptoCard : Claim7 := { stood := { row := calendarDaysUptoRow, standIns := [], harness := (true, "9693a124d4c2072d169915f027d7d8f55185add7117b52dce71bde24b569c618"), looks := false }, kinds := [], alts := [], laidByText := true, laidKinds := [.data], laidTests := true, laidLooks := .later }
def CalendarDaysUptoCardSaid : Prop := Claim7.holds Tryd.pinned (.plain (OpenSpec.upto calendarDaysSpec)) calendarDaysUptoCard

/-- THE SECOND FORM's CARD OF 'treatylaw03.CalendarYears'. -/
def calendarYearsUptoCard : Claim7 := { stood := { row := calendarYearsUptoRow, standIns := [], harness := (true, "9693a124d4c2072d169915f027d7d8f55185add7117b52dce71bde24b569c618"), looks := false }, kinds := [], alts := [], laidByText := true, laidKinds := [.data], laidTests := true, laidLooks := .later }
def CalendarYearsUptoCardSaid : Prop := Claim7.holds Tryd.pinned (.plain (OpenSpec.upto calendarYearsSpec)) calendarYearsUptoCard
end Rows
end Go.Proofs.YtlhgjhdeidhibaaDoor
