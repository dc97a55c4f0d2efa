/- Package calendar's leaves: the table of the months' lengths, days before a year, the year of a day, ranges. -/
import Derived.Test.YtaengcbjpniclaaGreatDoorBase
import Derived.Test.YtaengcbjpniclaaGreatDoorCalMath
namespace Go.Proofs.YtaengcbjpniclaaGreatDoor.Cal
open Go.RowKit Go.Lib Go.Proofs.YtaengcbjpniclaaGreatDoor.Bas
set_option linter.unusedVariables false

/-- The table of the months' lengths, as it was laid. -/
def Tab (w : World) : Prop := ∀ i : Nat, i < 12 → w.cell? ⟨1, i, none⟩ = some (.int .i64 (md 2001 ((i : Int) + 1)))
theorem Tab.lt {w : World} (h : Tab w) : 1 < w.heap.size := World.block_lt_of_cell? _ _ (h 0 (by omega))
theorem Tab.below {B : Nat} {w w' : World} (h : Tab w) (hb : Below B w w') (hB : 1 < B) : Tab w' := fun i hi => by rw [hb.cell (p := ⟨1, i, none⟩) hB]; exact h i hi
theorem Tab.keep {w w' : World} (h : Tab w) (hb : Below w.heap.size w w') : Tab w' := h.below hb h.lt
theorem Tab.drewN {w : World} (h : Tab w) (n : Nat) : Tab (w.drewN n) := h

theorem ret_int {k : IntKind} {a b : Int} (h : a = b) : Ending.returned (.int k a) = .returned (.int k b) := by rw [h]
theorem md_leap (y : Int) (h : y % 4 = 0) : md y 2 = md 2001 2 + 1 := by simp [md, lp, h]
theorem md_base (y m : Int) (h : m ≠ 2 ∨ y % 4 ≠ 0) : md y m = md 2001 m := by
  unfold md lp
  by_cases h2 : m = 2
  · rw [if_pos h2, if_pos h2, if_neg (by omega), if_neg (by omega)]
  · rw [if_neg h2, if_neg h2]

set_option maxHeartbeats 400000 in
theorem length_any (y m : Int) (w : World) (hT : Tab w) (hy : 2000 ≤ y) (hy2 : y ≤ 2099) (hm : 1 ≤ m) (hm2 : m ≤ 12) :
    Calls Tryz.prog 71 #[.int .i64 y, .int .i64 m] w fun e w' => e = .returned (.int .i64 (md y m)) ∧ w = w' := by
  have hc := hT (m.toNat - 1) (by omega)
  rw [show ((m.toNat - 1 : Nat) : Int) + 1 = m by omega] at hc
  have hb := md_bd 2001 m
  have hb1 := hb.1
  have hb2 := hb.2
  clear hb
  by_cases h2 : m = 2
  · by_cases h4 : y % 4 = 0
    · subst h2
      have h := md_leap y h4
      rw [h]
      clear h
      have b1 : (y % 4 == 0) = true := by simp [h4]
      clear h4 hT
      generalize md 2001 2 = z at *
      have hc1 : w.cell? ⟨1, 1, none⟩ = some (.int .i64 z) := hc
      clear hc
      go_enter Tryz.func71, Tryz.ntmps71
      go_wp2
      go_ret
      exact ⟨rfl, rfl⟩
    · subst h2
      rw [md_base y 2 (Or.inr h4)]
      have b1 : (y % 4 == 0) = false := by simp [h4]
      clear h4 hT
      generalize md 2001 2 = z at *
      have hc1 : w.cell? ⟨1, 1, none⟩ = some (.int .i64 z) := hc
      clear hc
      go_enter Tryz.func71, Tryz.ntmps71
      go_wp2
      go_ret
      exact ⟨rfl, rfl⟩
  · rw [md_base y m (Or.inl h2)]
    have b1 : (m == 2) = false := by simp [h2]
    clear hT h2
    generalize md 2001 m = z at *
    go_enter Tryz.func71, Tryz.ntmps71
    go_wp2
    go_ret
    exact ⟨rfl, rfl⟩

theorem before_any (y : Int) (w : World) (hy : 2000 ≤ y) (hy2 : y ≤ 2099) :
    Calls Tryz.prog 70 #[.int .i64 y] w fun e w' => e = .returned (.int .i64 (dby y)) ∧ w = w' := by
  go_enter Tryz.func70, Tryz.ntmps70
  go_wp2
  go_ret
  exact ⟨rfl, rfl⟩
theorem yearOf_any (n : Int) (w : World) (h0 : 0 ≤ n) (h1 : n ≤ 36524) :
    Calls Tryz.prog 69 #[.int .i64 n] w fun e w' => e = .returned (.int .i64 (yr n)) ∧ w = w' := by
  go_enter Tryz.func69, Tryz.ntmps69
  go_wp2
  go_ret
  exact ⟨rfl, rfl⟩
theorem inRange_yes (n : Int) (w : World) (h0 : 0 ≤ n) (h1 : n ≤ 876599) :
    Calls Tryz.prog 68 #[.int .i64 n] w fun e w' => e = .returned (.bool true) ∧ w = w' := by
  go_enter Tryz.func68, Tryz.ntmps68
  go_wp2
  go_ret
  exact ⟨rfl, rfl⟩
theorem inRange_no (n : Int) (w : World) (h : ¬ (0 ≤ n ∧ n ≤ 876599)) :
    Calls Tryz.prog 68 #[.int .i64 n] w fun e w' => e = .returned (.bool false) ∧ w = w' := by
  by_cases h0 : 0 ≤ n
  · have h1 : ¬ n ≤ 876599 := fun h1 => h ⟨h0, h1⟩
    clear h
    go_enter Tryz.func68, Tryz.ntmps68
    go_wp2
    go_ret
    exact ⟨rfl, rfl⟩
  · clear h
    go_enter Tryz.func68, Tryz.ntmps68
    go_wp2
    go_ret
    exact ⟨rfl, rfl⟩
theorem inHours_yes (n : Int) (w : World) (h0 : 0 ≤ n) (h1 : n ≤ 876599) :
    Calls Tryz.prog 61 #[.int .i64 n] w fun e w' => e = .returned (.bool true) ∧ w = w' := by
  go_enter Tryz.func61, Tryz.ntmps61
  go_wp2
  go_ret
  exact ⟨rfl, rfl⟩
theorem inHours_no (n : Int) (w : World) (h : ¬ (0 ≤ n ∧ n ≤ 876599)) :
    Calls Tryz.prog 61 #[.int .i64 n] w fun e w' => e = .returned (.bool false) ∧ w = w' := by
  by_cases h0 : 0 ≤ n
  · have h1 : ¬ n ≤ 876599 := fun h1 => h ⟨h0, h1⟩
    clear h
    go_enter Tryz.func61, Tryz.ntmps61
    go_wp2
    go_ret
    exact ⟨rfl, rfl⟩
  · clear h
    go_enter Tryz.func61, Tryz.ntmps61
    go_wp2
    go_ret
    exact ⟨rfl, rfl⟩
set_option maxHeartbeats 400000 in
theorem leap_any (y : Int) (w : World) (hy : 2000 ≤ y) (hy2 : y ≤ 2099) :
    Calls Tryz.prog 77 #[.int .i64 y] w fun e w' => e = .returned (.bool (decide (y % 4 = 0))) ∧ w = w' := by
  by_cases h4 : y % 4 = 0
  · rw [decide_eq_true h4]
    by_cases h100 : y = 2000
    · subst h100
      go_enter Tryz.func77, Tryz.ntmps77
      go_wp2
      go_ret
      exact ⟨rfl, rfl⟩
    · have b1 : (y % 4 == 0) = true := by simp [h4]
      have b2 : (y % 100 == 0) = false := by simp; omega
      have b3 : (y % 100 != 0) = true := by simp; omega
      clear h4 h100
      go_enter Tryz.func77, Tryz.ntmps77
      go_wp2
      go_ret
      exact ⟨rfl, rfl⟩
  · rw [decide_eq_false h4]
    have b1 : (y % 4 == 0) = false := by simp [h4]
    clear h4
    go_enter Tryz.func77, Tryz.ntmps77
    go_wp2
    go_ret
    exact ⟨rfl, rfl⟩
end Go.Proofs.YtaengcbjpniclaaGreatDoor.Cal
