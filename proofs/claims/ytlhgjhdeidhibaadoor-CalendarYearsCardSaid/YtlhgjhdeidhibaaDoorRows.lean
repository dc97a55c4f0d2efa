/-
  NARROWER THAN 'FOR EVERY INPUT', by the rows' own cells (each row's printed sentence says how): CalendarCivil: laid · CalendarHour: laid · CalendarNext: laid · CalendarText: laid · CalendarParse: laid · CalendarMonths: laid · CalendarSteps: laid · CalendarPeriods: laid · CalendarDays: laid · CalendarYears: laid.
  DERIVED. THE GIVEN ROWS OF THIS SEAT. 10 by the template 'for every input the law returns true; each argument reads behind the call as it read before'; 0 by the template 'total and deterministic' (their statements: YtlhgjhdeidhibaaDoorTotals.lean).
  GIVEN WITH THE SEED: the statements are not yours to turn. If you find one false, say at which input.
  Laid BY PROGRAM, IN A SANDBOX (cutbox-rows.mjs): the forced cells as the released guide's own fill.sh prints them over the translation 3ac951470707a391… (all of the seat's roots in one cut). By AI agents, Wed Nov 11 2026. No macro, syntax, notation, axiom, sorry.
-/
import Derived.Test.YtlhgjhdeidhibaaDoorChecked
import GoSem.Claim
import GoSem.ClaimJoined
import GoSem.ClaimMapViews
import Derived.JoinedTies
import Derived.KernelRfl
namespace Go.Proofs.YtlhgjhdeidhibaaDoor
/- THE CELL 'sum', in the pinned program and in every row, IS THE sha256 OF THE DUMP (.gsa) THAT YtlhgjhdeidhibaaDoorProg.lean LOADS. Nothing in Lean hashes anything: it is a label: what it is worth is what the hold of that sum in a sandbox is worth. -/
noncomputable def Tryd.pinned : Pinned := { name := "ytlhgjhdeidhibaadoor", sum := "3ac951470707a391a0d9702e2c49547b7203a5dbb0eb0ae61f2c7868214a0f5f", checked := Tryd.checked }
namespace Rows
def none {H : Type} : Left H := { results := [], args := [] }

/- WHAT THE LISTED PACKAGE-LEVEL VARIABLES READ AS WHEN THE CALL BEGINS. Each datum BY PROGRAM (the guide's laid-datum.mjs) off the statement by which the dump's own 'gosem.cut.vars' lays the variable. In a bare row this is a premise. The card (YtlhgjhdeidhibaaDoorCards.lean) ties it to the program's text. -/
def laid_treaty_calendar_lengths {H : Type} : DataW H := .agg [.lit (.int .i64 31), .lit (.int .i64 28), .lit (.int .i64 31), .lit (.int .i64 30), .lit (.int .i64 31), .lit (.int .i64 30), .lit (.int .i64 31), .lit (.int .i64 31), .lit (.int .i64 30), .lit (.int .i64 31), .lit (.int .i64 30), .lit (.int .i64 31)]

/-- 'treatylaw03.CalendarCivil': WHATEVER THE INPUT: true; the input reads as it did. -/
def calendarCivilSpec : ChangeSpec := { name := "calendarCivil", fn := fun _ => fun
  | [d] => { results := [.lit (.bool true)], args := [d] }
  | _ => none }
def calendarCivilRow : OpenClaim := { program := "ytlhgjhdeidhibaadoor", sum := "3ac951470707a391a0d9702e2c49547b7203a5dbb0eb0ae61f2c7868214a0f5f", func := "treaty/treatylaw03.CalendarCivil", spec := "calendarCivil", named := ["treaty/calendar.lengths"], apart := false, laid := [("treaty/calendar.lengths", laid_treaty_calendar_lengths)] }
def CalendarCivilSaid : Prop := calendarCivilRow.holds Tryd.pinned (OpenSpec.ofChange calendarCivilSpec)

/-- ITS FALSE NEIGHBOUR: 'it returns false'. Refute it at one input. -/
def calendarCivilWrong : ChangeSpec := { name := "calendarCivil", fn := fun _ => fun
  | [d] => { results := [.lit (.bool false)], args := [d] }
  | _ => none }
def CalendarCivilWrongFalsely : Prop := calendarCivilRow.holds Tryd.pinned (OpenSpec.ofChange calendarCivilWrong)

/-- 'treatylaw03.CalendarHour': WHATEVER THE INPUT: true; the input reads as it did. -/
def calendarHourSpec : ChangeSpec := { name := "calendarHour", fn := fun _ => fun
  | [d1, d2, d3, d4, d5] => { results := [.lit (.bool true)], args := [d1, d2, d3, d4, d5] }
  | _ => none }
def calendarHourRow : OpenClaim := { program := "ytlhgjhdeidhibaadoor", sum := "3ac951470707a391a0d9702e2c49547b7203a5dbb0eb0ae61f2c7868214a0f5f", func := "treaty/treatylaw03.CalendarHour", spec := "calendarHour", named := ["treaty/calendar.lengths"], apart := false, laid := [("treaty/calendar.lengths", laid_treaty_calendar_lengths)] }
def CalendarHourSaid : Prop := calendarHourRow.holds Tryd.pinned (OpenSpec.ofChange calendarHourSpec)

/-- ITS FALSE NEIGHBOUR: 'it returns false'. Refute it at one input. -/
def calendarHourWrong : ChangeSpec := { name := "calendarHour", fn := fun _ => fun
  | [d1, d2, d3, d4, d5] => { results := [.lit (.bool false)], args := [d1, d2, d3, d4, d5] }
  | _ => none }
def CalendarHourWrongFalsely : Prop := calendarHourRow.holds Tryd.pinned (OpenSpec.ofChange calendarHourWrong)

/-- 'treatylaw03.CalendarNext': WHATEVER THE INPUT: true; the input reads as it did. -/
def calendarNextSpec : ChangeSpec := { name := "calendarNext", fn := fun _ => fun
  | [d] => { results := [.lit (.bool true)], args := [d] }
  | _ => none }
def calendarNextRow : OpenClaim := { program := "ytlhgjhdeidhibaadoor", sum := "3ac951470707a391a0d9702e2c49547b7203a5dbb0eb0ae61f2c7868214a0f5f", func := "treaty/treatylaw03.CalendarNext", spec := "calendarNext", named := ["treaty/calendar.lengths"], apart := false, laid := [("treaty/calendar.lengths", laid_treaty_calendar_lengths)] }
def CalendarNextSaid : Prop := calendarNextRow.holds Tryd.pinned (OpenSpec.ofChange calendarNextSpec)

/-- ITS FALSE NEIGHBOUR: 'it returns false'. Refute it at one input. -/
def calendarNextWrong : ChangeSpec := { name := "calendarNext", fn := fun _ => fun
  | [d] => { results := [.lit (.bool false)], args := [d] }
  | _ => none }
def CalendarNextWrongFalsely : Prop := calendarNextRow.holds Tryd.pinned (OpenSpec.ofChange calendarNextWrong)

/-- 'treatylaw03.CalendarText': WHATEVER THE INPUT: true; the input reads as it did. -/
def calendarTextSpec : ChangeSpec := { name := "calendarText", fn := fun _ => fun
  | [d] => { results := [.lit (.bool true)], args := [d] }
  | _ => none }
def calendarTextRow : OpenClaim := { program := "ytlhgjhdeidhibaadoor", sum := "3ac951470707a391a0d9702e2c49547b7203a5dbb0eb0ae61f2c7868214a0f5f", func := "treaty/treatylaw03.CalendarText", spec := "calendarText", named := ["treaty/calendar.lengths"], apart := false, laid := [("treaty/calendar.lengths", laid_treaty_calendar_lengths)] }
def CalendarTextSaid : Prop := calendarTextRow.holds Tryd.pinned (OpenSpec.ofChange calendarTextSpec)

/-- ITS FALSE NEIGHBOUR: 'it returns false'. Refute it at one input. -/
def calendarTextWrong : ChangeSpec := { name := "calendarText", fn := fun _ => fun
  | [d] => { results := [.lit (.bool false)], args := [d] }
  | _ => none }
def CalendarTextWrongFalsely : Prop := calendarTextRow.holds Tryd.pinned (OpenSpec.ofChange calendarTextWrong)

/-- 'treatylaw03.CalendarParse': WHATEVER THE INPUT: true; the input reads as it did. -/
def calendarParseSpec : ChangeSpec := { name := "calendarParse", fn := fun _ => fun
  | [d1, d2, d3, d4] => { results := [.lit (.bool true)], args := [d1, d2, d3, d4] }
  | _ => none }
def calendarParseRow : OpenClaim := { program := "ytlhgjhdeidhibaadoor", sum := "3ac951470707a391a0d9702e2c49547b7203a5dbb0eb0ae61f2c7868214a0f5f", func := "treaty/treatylaw03.CalendarParse", spec := "calendarParse", named := ["treaty/calendar.lengths"], apart := false, laid := [("treaty/calendar.lengths", laid_treaty_calendar_lengths)] }
def CalendarParseSaid : Prop := calendarParseRow.holds Tryd.pinned (OpenSpec.ofChange calendarParseSpec)

/-- ITS FALSE NEIGHBOUR: 'it returns false'. Refute it at one input. -/
def calendarParseWrong : ChangeSpec := { name := "calendarParse", fn := fun _ => fun
  | [d1, d2, d3, d4] => { results := [.lit (.bool false)], args := [d1, d2, d3, d4] }
  | _ => none }
def CalendarParseWrongFalsely : Prop := calendarParseRow.holds Tryd.pinned (OpenSpec.ofChange calendarParseWrong)

/-- 'treatylaw03.CalendarMonths': WHATEVER THE INPUT: true; the input reads as it did. -/
def calendarMonthsSpec : ChangeSpec := { name := "calendarMonths", fn := fun _ => fun
  | [d1, d2, d3] => { results := [.lit (.bool true)], args := [d1, d2, d3] }
  | _ => none }
def calendarMonthsRow : OpenClaim := { program := "ytlhgjhdeidhibaadoor", sum := "3ac951470707a391a0d9702e2c49547b7203a5dbb0eb0ae61f2c7868214a0f5f", func := "treaty/treatylaw03.CalendarMonths", spec := "calendarMonths", named := ["treaty/calendar.lengths"], apart := false, laid := [("treaty/calendar.lengths", laid_treaty_calendar_lengths)] }
def CalendarMonthsSaid : Prop := calendarMonthsRow.holds Tryd.pinned (OpenSpec.ofChange calendarMonthsSpec)

/-- ITS FALSE NEIGHBOUR: 'it returns false'. Refute it at one input. -/
def calendarMonthsWrong : ChangeSpec := { name := "calendarMonths", fn := fun _ => fun
  | [d1, d2, d3] => { results := [.lit (.bool false)], args := [d1, d2, d3] }
  | _ => none }
def CalendarMonthsWrongFalsely : Prop := calendarMonthsRow.holds Tryd.pinned (OpenSpec.ofChange calendarMonthsWrong)

/-- 'treatylaw03.CalendarSteps': WHATEVER THE INPUT: true; the input reads as it did. -/
def calendarStepsSpec : ChangeSpec := { name := "calendarSteps", fn := fun _ => fun
  | [d1, d2, d3] => { results := [.lit (.bool true)], args := [d1, d2, d3] }
  | _ => none }
def calendarStepsRow : OpenClaim := { program := "ytlhgjhdeidhibaadoor", sum := "3ac951470707a391a0d9702e2c49547b7203a5dbb0eb0ae61f2c7868214a0f5f", func := "treaty/treatylaw03.CalendarSteps", spec := "calendarSteps", named := ["treaty/calendar.lengths"], apart := false, laid := [("treaty/calendar.lengths", laid_treaty_calendar_lengths)] }
def CalendarStepsSaid : Prop := calendarStepsRow.holds Tryd.pinned (OpenSpec.ofChange calendarStepsSpec)

/-- ITS FALSE NEIGHBOUR: 'it returns false'. Refute it at one input. -/
def calendarStepsWrong : ChangeSpec := { name := "calendarSteps", fn := fun _ => fun
  | [d1, d2, d3] => { results := [.lit (.bool false)], args := [d1, d2, d3] }
  | _ => none }
def CalendarStepsWrongFalsely : Prop := calendarStepsRow.holds Tryd.pinned (OpenSpec.ofChange calendarStepsWrong)

/-- 'treatylaw03.CalendarPeriods': WHATEVER THE INPUT: true; the input reads as it did. -/
def calendarPeriodsSpec : ChangeSpec := { name := "calendarPeriods", fn := fun _ => fun
  | [d1, d2, d3, d4] => { results := [.lit (.bool true)], args := [d1, d2, d3, d4] }
  | _ => none }
def calendarPeriodsRow : OpenClaim := { program := "ytlhgjhdeidhibaadoor", sum := "3ac951470707a391a0d9702e2c49547b7203a5dbb0eb0ae61f2c7868214a0f5f", func := "treaty/treatylaw03.CalendarPeriods", spec := "calendarPeriods", named := ["treaty/calendar.lengths"], apart := false, laid := [("treaty/calendar.lengths", laid_treaty_calendar_lengths)] }
def CalendarPeriodsSaid : Prop := calendarPeriodsRow.holds Tryd.pinned (OpenSpec.ofChange calendarPeriodsSpec)

/-- ITS FALSE NEIGHBOUR: 'it returns false'. Refute it at one input. -/
def calendarPeriodsWrong : ChangeSpec := { name := "calendarPeriods", fn := fun _ => fun
  | [d1, d2, d3, d4] => { results := [.lit (.bool false)], args := [d1, d2, d3, d4] }
  | _ => none }
def CalendarPeriodsWrongFalsely : Prop := calendarPeriodsRow.holds Tryd.pinned (OpenSpec.ofChange calendarPeriodsWrong)

/-- 'treatylaw03.CalendarDays': WHATEVER THE INPUT: true; the input reads as it did. -/
def calendarDaysSpec : ChangeSpec := { name := "calendarDays", fn := fun _ => fun
  | [d1, d2, d3] => { results := [.lit (.bool true)], args := [d1, d2, d3] }
  | _ => none }
def calendarDaysRow : OpenClaim := { program := "ytlhgjhdeidhibaadoor", sum := "3ac951470707a391a0d9702e2c49547b7203a5dbb0eb0ae61f2c7868214a0f5f", func := "treaty/treatylaw03.CalendarDays", spec := "calendarDays", named := ["treaty/calendar.lengths"], apart := false, laid := [("treaty/calendar.lengths", laid_treaty_calendar_lengths)] }
def CalendarDaysSaid : Prop := calendarDaysRow.holds Tryd.pinned (OpenSpec.ofChange calendarDaysSpec)

/-- ITS FALSE NEIGHBOUR: 'it returns false'. Refute it at one input. -/
def calendarDaysWrong : ChangeSpec := { name := "calendarDays", fn := fun _ => fun
  | [d1, d2, d3] => { results := [.lit (.bool false)], args := [d1, d2, d3] }
  | _ => none }
def CalendarDaysWrongFalsely : Prop := calendarDaysRow.holds Tryd.pinned (OpenSpec.ofChange calendarDaysWrong)

/-- 'treatylaw03.CalendarYears': WHATEVER THE INPUT: true; the input reads as it did. -/
def calendarYearsSpec : ChangeSpec := { name := "calendarYears", fn := fun _ => fun
  | [d1, d2] => { results := [.lit (.bool true)], args := [d1, d2] }
  | _ => none }
def calendarYearsRow : OpenClaim := { program := "ytlhgjhdeidhibaadoor", sum := "3ac951470707a391a0d9702e2c49547b7203a5dbb0eb0ae61f2c7868214a0f5f", func := "treaty/treatylaw03.CalendarYears", spec := "calendarYears", named := ["treaty/calendar.lengths"], apart := false, laid := [("treaty/calendar.lengths", laid_treaty_calendar_lengths)] }
def CalendarYearsSaid : Prop := calendarYearsRow.holds Tryd.pinned (OpenSpec.ofChange calendarYearsSpec)

/-- ITS FALSE NEIGHBOUR: 'it returns false'. Refute it at one input. -/
def calendarYearsWrong : ChangeSpec := { name := "calendarYears", fn := fun _ => fun
  | [d1, d2] => { results := [.lit (.bool false)], args := [d1, d2] }
  | _ => none }
def CalendarYearsWrongFalsely : Prop := calendarYearsRow.holds Tryd.pinned (OpenSpec.ofChange calendarYearsWrong)

/- THE SECOND FORM. 'bulk': how many values and letters a reading holds, each counted each time it is reached (what is shared counts as often as it is met; a slice's spare places count too). A statement '..UptoSaid' is the law's where the arguments, and the package variables that the reading takes, are together of bulk at most 1048576: NARROWER than '..Said'. Prove '..Said' where nothing that the law and all that it calls make is longer than what came in: it says more and counts as full. Else prove '..UptoSaid'. A law counts once. -/
mutual
def uptoBulk {H : Type} : DataW H → Nat
  | .lit (.string bytes) => bytes.length + 1
  | .lit _ => 1
  | .nil => 1
  | .ptr d => uptoBulk d + 1
  | .slice elems spare => uptoBulkAll elems + uptoBulkAll spare + 1
  | .agg parts => uptoBulkAll parts + 1
  | .iface _ d => uptoBulk d + 1
  | .map entries => uptoBulkEntries entries + 1
  | .held _ => 1
def uptoBulkAll {H : Type} : List (DataW H) → Nat
  | [] => 0
  | d :: r => uptoBulk d + uptoBulkAll r
def uptoBulkEntries {H : Type} : List (Lit × DataW H) → Nat
  | [] => 0
  | x :: r => uptoBulkEntry x + uptoBulkEntries r
def uptoBulkEntry {H : Type} : Lit × DataW H → Nat
  | (.string bytes, d) => bytes.length + uptoBulk d + 1
  | (_, d) => uptoBulk d + 1
 end
def uptoSmall : (H : Type) → List (DataW H) → Bool := fun _ ds => decide (uptoBulkAll ds ≤ 1048576)
def OpenSpec.upto (s : _root_.Go.ChangeSpec) : _root_.Go.OpenSpec := { _root_.Go.OpenSpec.ofChange s with cond := some uptoSmall }

/-- 'treatylaw03.CalendarCivil', WHERE WHAT IT READS IS OF BULK AT MOST 1048576: true; the input reads as it did. -/
def calendarCivilUptoRow : OpenClaim := { program := "ytlhgjhdeidhibaadoor", sum := "3ac951470707a391a0d9702e2c49547b7203a5dbb0eb0ae61f2c7868214a0f5f", func := "treaty/treatylaw03.CalendarCivil", spec := "calendarCivil", named := ["treaty/calendar.lengths"], apart := false, laid := [("treaty/calendar.lengths", laid_treaty_calendar_lengths)], narrowed := true }
def CalendarCivilUptoSaid : Prop := calendarCivilUptoRow.holds Tryd.pinned (OpenSpec.upto calendarCivilSpec)

/-- 'treatylaw03.CalendarHour', WHERE WHAT IT READS IS OF BULK AT MOST 1048576: true; the input reads as it did. -/
def calendarHourUptoRow : OpenClaim := { program := "ytlhgjhdeidhibaadoor", sum := "3ac951470707a391a0d9702e2c49547b7203a5dbb0eb0ae61f2c7868214a0f5f", func := "treaty/treatylaw03.CalendarHour", spec := "calendarHour", named := ["treaty/calendar.lengths"], apart := false, laid := [("treaty/calendar.lengths", laid_treaty_calendar_lengths)], narrowed := true }
def CalendarHourUptoSaid : Prop := calendarHourUptoRow.holds Tryd.pinned (OpenSpec.upto calendarHourSpec)

/-- 'treatylaw03.CalendarNext', WHERE WHAT IT READS IS OF BULK AT MOST 1048576: true; the input reads as it did. -/
def calendarNextUptoRow : OpenClaim := { program := "ytlhgjhdeidhibaadoor", sum := "3ac951470707a391a0d9702e2c49547b7203a5dbb0eb0ae61f2c7868214a0f5f", func := "treaty/treatylaw03.CalendarNext", spec := "calendarNext", named := ["treaty/calendar.lengths"], apart := false, laid := [("treaty/calendar.lengths", laid_treaty_calendar_lengths)], narrowed := true }
def CalendarNextUptoSaid : Prop := calendarNextUptoRow.holds Tryd.pinned (OpenSpec.upto calendarNextSpec)

/-- 'treatylaw03.CalendarText', WHERE WHAT IT READS IS OF BULK AT MOST 1048576: true; the input reads as it did. -/
def calendarTextUptoRow : OpenClaim := { program := "ytlhgjhdeidhibaadoor", sum := "3ac951470707a391a0d9702e2c49547b7203a5dbb0eb0ae61f2c7868214a0f5f", func := "treaty/treatylaw03.CalendarText", spec := "calendarText", named := ["treaty/calendar.lengths"], apart := false, laid := [("treaty/calendar.lengths", laid_treaty_calendar_lengths)], narrowed := true }
def CalendarTextUptoSaid : Prop := calendarTextUptoRow.holds Tryd.pinned (OpenSpec.upto calendarTextSpec)

/-- 'treatylaw03.CalendarParse', WHERE WHAT IT READS IS OF BULK AT MOST 1048576: true; the input reads as it did. -/
def calendarParseUptoRow : OpenClaim := { program := "ytlhgjhdeidhibaadoor", sum := "3ac951470707a391a0d9702e2c49547b7203a5dbb0eb0ae61f2c7868214a0f5f", func := "treaty/treatylaw03.CalendarParse", spec := "calendarParse", named := ["treaty/calendar.lengths"], apart := false, laid := [("treaty/calendar.lengths", laid_treaty_calendar_lengths)], narrowed := true }
def CalendarParseUptoSaid : Prop := calendarParseUptoRow.holds Tryd.pinned (OpenSpec.upto calendarParseSpec)

/-- 'treatylaw03.CalendarMonths', WHERE WHAT IT READS IS OF BULK AT MOST 1048576: true; the input reads as it did. -/
def calendarMonthsUptoRow : OpenClaim := { program := "ytlhgjhdeidhibaadoor", sum := "3ac951470707a391a0d9702e2c49547b7203a5dbb0eb0ae61f2c7868214a0f5f", func := "treaty/treatylaw03.CalendarMonths", spec := "calendarMonths", named := ["treaty/calendar.lengths"], apart := false, laid := [("treaty/calendar.lengths", laid_treaty_calendar_lengths)], narrowed := true }
def CalendarMonthsUptoSaid : Prop := calendarMonthsUptoRow.holds Tryd.pinned (OpenSpec.upto calendarMonthsSpec)

/-- 'treatylaw03.CalendarSteps', WHERE WHAT IT READS IS OF BULK AT MOST 1048576: true; the input reads as it did. -/
def calendarStepsUptoRow : OpenClaim := { program := "ytlhgjhdeidhibaadoor", sum := "3ac951470707a391a0d9702e2c49547b7203a5dbb0eb0ae61f2c7868214a0f5f", func := "treaty/treatylaw03.CalendarSteps", spec := "calendarSteps", named := ["treaty/calendar.lengths"], apart := false, laid := [("treaty/calendar.lengths", laid_treaty_calendar_lengths)], narrowed := true }
def CalendarStepsUptoSaid : Prop := calendarStepsUptoRow.holds Tryd.pinned (OpenSpec.upto calendarStepsSpec)

/-- 'treatylaw03.CalendarPeriods', WHERE WHAT IT READS IS OF BULK AT MOST 1048576: true; the input reads as it did. -/
def calendarPeriodsUptoRow : OpenClaim := { program := "ytlhgjhdeidhibaadoor", sum := "3ac951470707a391a0d9702e2c49547b7203a5dbb0eb0ae61f2c7868214a0f5f", func := "treaty/treatylaw03.CalendarPeriods", spec := "calendarPeriods", named := ["treaty/calendar.lengths"], apart := false, laid := [("treaty/calendar.lengths", laid_treaty_calendar_lengths)], narrowed := true }
def CalendarPeriodsUptoSaid : Prop := calendarPeriodsUptoRow.holds Tryd.pinned (OpenSpec.upto calendarPeriodsSpec)

/-- 'treatylaw03.CalendarDays', WHERE WHAT IT READS IS OF BULK AT MOST 1048576: true; the input reads as it did. -/
def calendarDaysUptoRow : OpenClaim := { program := "ytlhgjhdeidhibaadoor", sum := "3ac951470707a391a0d9702e2c49547b7203a5dbb0eb0ae61f2c7868214a0f5f", func := "treaty/treatylaw03.CalendarDays", spec := "calendarDays", named := ["treaty/calendar.lengths"], apart := false, laid := [("treaty/calendar.lengths", laid_treaty_calendar_lengths)], narrowed := true }
def CalendarDaysUptoSaid : Prop := calendarDaysUptoRow.holds Tryd.pinned (OpenSpec.upto calendarDaysSpec)

/-- 'treatylaw03.CalendarYears', WHERE WHAT IT READS IS OF BULK AT MOST 1048576: true; the input reads as it did. -/
def calendarYearsUptoRow : OpenClaim := { program := "ytlhgjhdeidhibaadoor", sum := "3ac951470707a391a0d9702e2c49547b7203a5dbb0eb0ae61f2c7868214a0f5f", func := "treaty/treatylaw03.CalendarYears", spec := "calendarYears", named := ["treaty/calendar.lengths"], apart := false, laid := [("treaty/calendar.lengths", laid_treaty_calendar_lengths)], narrowed := true }
def CalendarYearsUptoSaid : Prop := calendarYearsUptoRow.holds Tryd.pinned (OpenSpec.upto calendarYearsSpec)

end Rows
end Go.Proofs.YtlhgjhdeidhibaaDoor
