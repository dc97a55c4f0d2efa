/- From the row's condition on the package-level table to its cells; the world that the door leaves meets it. -/
import Derived.Test.YtlhgjhdeidhibaaDoorCalLeaf
import Derived.LaidMore
import Derived.OpenShut
import Derived.Stop.Joined
namespace Go.Proofs.YtlhgjhdeidhibaaDoor.Cal
open Go.ChangeShapes Go.WideShapes Go.ChangeAt Go.RowKit Go.Proofs.YtlhgjhdeidhibaaDoor.Bas
set_option linter.unusedVariables false

/-- What the rows list. -/
abbrev lengthsLaid : List (String × DataW Unit) := Rows.calendarCivilRow.laid
/-- The table's name, as the rows have it. -/
abbrev lenName : String := Rows.calendarCivilRow.named.headD "none"
theorem gLen : Tryd.prog.globalNamed lenName = some 0 := by kernel_rfl
theorem tLen : (Tryd.prog.globals[0]?).map (·.type) = some 74 := by kernel_rfl
theorem cInt : Tryd.prog.cellsOf 3 = 1 := by kernel_rfl

theorem door_met (os : Os) (args : Array Value) : laidMetH Tryd.prog lengthsLaid ((World.doorLaid Tryd.prog 400 os).forCall (fun _ _ => 0) ⟨#[], args, []⟩).memory :=
  laidMetH_of_parts3 (fuel := 8) (laidMet_of_run' 8 (by kernel_rfl) (by kernel_rfl)) (by kernel_rfl) (by kernel_rfl)

theorem tab_of_laid {W : World} (h : laidMetH Tryd.prog lengthsLaid W) : Tab W := by
  rw [MakeChecks.laidMetH_plain _ _ _ (by kernel_rfl)] at h
  obtain ⟨ps, ⟨g0, t0, cs0, f0, p0, q0, hg0, ht0, hv0, hd0, _, _⟩, _, _⟩ := (show laidMet Tryd.prog [(lenName, Rows.laid_treaty_calendar_lengths)] W from h)
  obtain rfl := Option.some.inj (gLen.symm.trans hg0)
  obtain rfl := Option.some.inj (tLen.symm.trans ht0)
  obtain ⟨xs, m1, rfl, hx1, hlen, hn, hel⟩ := DataW.trod_array Tryd.underlying74 hd0
  simp only [Prod.mk.injEq, Rows.laid_treaty_calendar_lengths, DataW.agg.injEq] at hx1
  intro i hi
  have h0 := hel i hi
  rw [cInt] at h0
  have hx : xs[i]? = some xs[i] := List.getElem?_eq_getElem (by omega)
  rw [hx] at h0
  obtain ⟨k, e1, e2, _⟩ := DataW.trod_int Tryd.underlying3 h0
  have hm : (xs.map (·.1))[i]? = some xs[i].1 := by rw [List.getElem?_map, hx]; rfl
  rw [e2, ← hx1.1] at hm
  have hk : k = md 2001 ((i : Int) + 1) := by
    rcases (show i = 0 ∨ i = 1 ∨ i = 2 ∨ i = 3 ∨ i = 4 ∨ i = 5 ∨ i = 6 ∨ i = 7 ∨ i = 8 ∨ i = 9 ∨ i = 10 ∨ i = 11 by omega) with e | e | e | e | e | e | e | e | e | e | e | e <;> subst e <;> simp at hm <;> rw [← hm] <;> decide
  subst hk
  have hc := World.var?_cell hg0 hv0 i
  rw [hc]
  simp only [Nat.mul_one] at e1
  have hcs : i < cs0.toList.length := by
    by_cases hh : i < cs0.toList.length
    · exact hh
    · rw [List.drop_of_length_le (by omega)] at e1; simp at e1
  rw [List.drop_eq_getElem_cons hcs] at e1
  simp at e1
  rw [← e1]
  simp at hcs
  simp [hcs]
end Go.Proofs.YtlhgjhdeidhibaaDoor.Cal
