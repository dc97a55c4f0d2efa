/- From the rows' condition on package-level variables to what a call finds; the world that the door leaves meets it. -/
import Derived.Test.YtdehldcgakdobaaDoorScEnv
import Derived.LaidMore
import Derived.OpenShut
import Derived.Stop.Joined
import Derived.Stop.LaidErr
import Derived.Lib.LaidTab
import Derived.Lib.LaidU8
namespace Go.Proofs.YtdehldcgakdobaaDoor.Sc
open Go.ChangeShapes Go.WideShapes Go.ChangeAt Go.RowKit Go.Lib Go.Proofs.YtdehldcgakdobaaDoor.Bas
set_option linter.unusedVariables false

/-- What the rows list. -/
abbrev seatLaid : List (String × DataW Unit) := Rows.schemaFormatRow.laid
theorem gPow : Tryd.prog.globalNamed powName = some 1 := by kernel_rfl
theorem tPow : (Tryd.prog.globals[1]?).map (·.type) = some 89 := by kernel_rfl
theorem cU64 : Tryd.prog.cellsOf 83 = 1 := by kernel_rfl
theorem cPow : Tryd.prog.cellsOf 89 = 20 := by kernel_rfl

theorem door_met (os : Os) (args : Array Value) : laidMetH Tryd.prog seatLaid ((World.doorLaid Tryd.prog 400 os).forCall (fun _ _ => 0) ⟨#[], args, []⟩).memory :=
  laidMetH_of_parts3 (fuel := 8) (laidMet_of_run' 8 (by kernel_rfl) (by kernel_rfl)) (by kernel_rfl) (by kernel_rfl)

theorem env_of_laid {W : World} (h : laidMetH Tryd.prog seatLaid W) : EnvS W := by
  rw [MakeChecks.laidMetH_plain _ _ _ (by kernel_rfl)] at h
  have h2 : laidMet Tryd.prog ((powName, tabData .u64 pow10Tab) :: seatLaid.drop 3) W := h.tail.tail
  exact ⟨tabIs_of_head gPow tPow Tryd.underlying89 Tryd.underlying83 cU64 cPow h2⟩
end Go.Proofs.YtdehldcgakdobaaDoor.Sc
