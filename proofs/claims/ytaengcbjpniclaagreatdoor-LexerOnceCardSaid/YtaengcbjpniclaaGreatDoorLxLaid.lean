/- From the rows' condition on package-level variables to what a call finds; the world that the door leaves meets it. -/
import Derived.Test.YtaengcbjpniclaaGreatDoorLxEnv
import Derived.LaidMore
import Derived.OpenShut
import Derived.Stop.Joined
import Derived.Stop.LaidErr
import Derived.Lib.LaidTab
import Derived.Lib.LaidU8
namespace Go.Proofs.YtaengcbjpniclaaGreatDoor.Lx
open Go.ChangeShapes Go.WideShapes Go.ChangeAt Go.RowKit Go.Lib Go.Proofs.YtaengcbjpniclaaGreatDoor.Bas Go.Proofs.YtaengcbjpniclaaGreatDoor.Cal
set_option linter.unusedVariables false

/-- What the rows list. -/
abbrev seatLaid : List (String × DataW Unit) := Rows.lexerJoinRow.laid
/-- The name of the table of the months' lengths, as the rows have it. -/
abbrev lenName : String := (seatLaid.map (·.1)).getD 3 "none"
theorem gLen : Tryz.prog.globalNamed lenName = some 1 := by kernel_rfl
theorem tLen : (Tryz.prog.globals[1]?).map (·.type) = some 88 := by kernel_rfl
theorem cInt : Tryz.prog.cellsOf 3 = 1 := by kernel_rfl
theorem cLen : Tryz.prog.cellsOf 88 = 12 := by kernel_rfl
theorem gPow : Tryz.prog.globalNamed powName = some 4 := by kernel_rfl
theorem tPow : (Tryz.prog.globals[4]?).map (·.type) = some 105 := by kernel_rfl
theorem cU64 : Tryz.prog.cellsOf 90 = 1 := by kernel_rfl
theorem cPow : Tryz.prog.cellsOf 105 = 20 := by kernel_rfl
theorem gErr : Tryz.prog.globalNamed "strconv.ErrRange" = some 3 := by kernel_rfl
theorem tErr : (Tryz.prog.globals[3]?).map (·.type) = some 43 := by kernel_rfl

theorem door_met (os : Os) (args : Array Value) : laidMetH Tryz.prog seatLaid ((World.doorLaid Tryz.prog 400 os).forCall (fun _ _ => 0) ⟨#[], args, []⟩).memory :=
  laidMetH_of_parts3 (fuel := 8) (laidMet_of_run' 8 (by kernel_rfl) (by kernel_rfl)) (by kernel_rfl) (by kernel_rfl)

def mdTab : List Int := [31, 28, 31, 30, 31, 30, 31, 31, 30, 31, 30, 31]
theorem env_of_laid {W : World} (h : laidMetH Tryz.prog seatLaid W) : Env W := by
  rw [MakeChecks.laidMetH_plain _ _ _ (by kernel_rfl)] at h
  refine ⟨?_, ?_, ?_⟩
  · have h3 : laidMet Tryz.prog ((lenName, tabData .i64 mdTab) :: seatLaid.drop 4) W := h.tail.tail.tail
    have hT := tabIs_of_head gLen tLen Tryz.underlying88 Tryz.underlying3 cInt cLen h3
    intro i hi
    rw [hT.cell gLen i hi]
    rcases (show i = 0 ∨ i = 1 ∨ i = 2 ∨ i = 3 ∨ i = 4 ∨ i = 5 ∨ i = 6 ∨ i = 7 ∨ i = 8 ∨ i = 9 ∨ i = 10 ∨ i = 11 by omega) with e | e | e | e | e | e | e | e | e | e | e | e <;> subst e <;> exact congrArg (fun z => some (Value.int .i64 z)) (by decide +kernel)
  · have h2 : laidMet Tryz.prog ((powName, tabData .u64 pow10Tab) :: seatLaid.drop 3) W := h.tail.tail
    exact tabIs_of_head gPow tPow Tryz.underlying105 Tryz.underlying90 cU64 cPow h2
  · obtain ⟨g, t, cs, fuel, p, h1, h2, h3, h4⟩ := laidMet.reads h.tail.tail.tail.tail (n := "strconv.ErrRange") (d := Rows.laid_strconv_ErrRange) (List.Mem.head _)
    obtain rfl := Option.some.inj (gErr.symm.trans h1)
    obtain rfl := Option.some.inj (tErr.symm.trans h2)
    cases cs with
    | mk l =>
      obtain ⟨f1, u, v, rfl, _, _⟩ := iface_of_trod Tryz.underlying43 h4
      exact ⟨u, v, h3⟩
end Go.Proofs.YtaengcbjpniclaaGreatDoor.Lx
