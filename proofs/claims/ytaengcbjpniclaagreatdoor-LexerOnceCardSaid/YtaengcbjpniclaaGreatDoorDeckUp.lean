/- The deck: Upto. -/
import Derived.Test.YtaengcbjpniclaaGreatDoorDeck0
namespace Go.Proofs.YtaengcbjpniclaaGreatDoor.Dk
open Go.RowKit Go.Lib Go.Proofs.YtaengcbjpniclaaGreatDoor.Bas Go.Proofs.YtaengcbjpniclaaGreatDoor.Spl
set_option linter.unusedVariables false

/-- A number up to most. -/
def UptoOut (most B d : Nat) (v : Value) (l : List Int) (w : World) (e : Ending) (w' : World) : Prop := ∃ x : Nat, x ≤ most ∧ e = .returned (.int .i64 x) ∧ Deck B w' d v l ∧ Kept d w w'
theorem min_nat (y m : Nat) : ∃ z : Nat, min (y : Int) (m : Int) = z ∧ z ≤ m := ⟨min y m, by omega, by omega⟩
set_option maxHeartbeats 2000000 in
theorem upto_any (B d : Nat) (v : Value) (l : List Int) (w : World) (most : Nat) (hm : most ≤ 17592186044416) (h : Deck B w d v l) :
    Calls Tryz.prog 23 #[.pointer (some ⟨d, 0, none⟩), .int .i64 most] w (UptoOut most B d v l w) := by
  have hD := Lib.hid h
  clear h
  go_enter Tryz.func23, Tryz.ntmps23
  go_wp2_with fail
  refine (next_any B d v l _ 6 (by omega) (by omega) hD.out).mono ?_; rintro e w1 ⟨x, hx, rfl, hD1, hK1⟩
  have hD1 := Lib.hid hD1
  have hK1 := Lib.hid hK1
  clear hD
  have hx6 : x = 0 ∨ x = 1 ∨ x = 2 ∨ x = 3 ∨ 4 ≤ x := by omega
  rcases hx6 with rfl | rfl | rfl | rfl | hx4
  · go_wp2_with fail
    refine (next_any B d v l _ 4 (by omega) (by omega) hD1.out).mono ?_; rintro e w2 ⟨y, hy, rfl, hD2, hK2⟩
    have hfin : ∀ z : Nat, z ≤ most → UptoOut most B d v l w (.returned (.int .i64 z)) w2 := fun z hz => ⟨z, hz, rfl, hD2, hK1.out.trans hK2⟩
    have hfin' := Lib.hid hfin
    clear hfin hD2 hK2
    go_wp2_with fail
    all_goals go_ret
    all_goals first | exact hfin'.out most (Nat.le_refl _) | exact hfin'.out y (by omega)
  · go_wp2_with fail
    refine (next_any B d v l _ 100 (by omega) (by omega) hD1.out).mono ?_; rintro e w2 ⟨y, hy, rfl, hD2, hK2⟩
    have hfin : ∀ z : Nat, z ≤ most → UptoOut most B d v l w (.returned (.int .i64 z)) w2 := fun z hz => ⟨z, hz, rfl, hD2, hK1.out.trans hK2⟩
    have hfin' := Lib.hid hfin
    clear hfin hD2 hK2
    go_wp2_with fail
    all_goals go_ret
    all_goals first | exact hfin'.out most (Nat.le_refl _) | exact hfin'.out y (by omega)
  · go_wp2_with fail
    refine (next_any B d v l _ 1048576 (by omega) (by omega) hD1.out).mono ?_; rintro e w2 ⟨y, hy, rfl, hD2, hK2⟩
    have hfin : ∀ z : Nat, z ≤ most → UptoOut most B d v l w (.returned (.int .i64 z)) w2 := fun z hz => ⟨z, hz, rfl, hD2, hK1.out.trans hK2⟩
    have hfin' := Lib.hid hfin
    clear hfin hD2 hK2
    go_wp2_with fail
    all_goals go_ret
    all_goals first | exact hfin'.out most (Nat.le_refl _) | exact hfin'.out y (by omega)
  · have hm1 : (most : Int) + 1 = ((most + 1 : Nat) : Int) := by omega
    have hm1' := Lib.hid hm1
    clear hm1
    go_wp2_with fail
    · rw [hm1'.out]
      refine (next_any B d v l _ (most + 1) (by omega) (by omega) hD1.out).mono ?_; rintro e w2 ⟨y, hy, rfl, hD2, hK2⟩
      obtain ⟨z, hz⟩ : ∃ z : Nat, (most : Int) - y = z := ⟨most - y, by omega⟩
      have hfin : UptoOut most B d v l w (.returned (.int .i64 z)) w2 := ⟨z, by omega, rfl, hD2, hK1.out.trans hK2⟩
      have hfin' := Lib.hid hfin
      clear hfin hD2 hK2
      go_wp2_with fail
      go_ret
      exact hfin'.out
    · refine (next_any B d v l _ 3 (by omega) (by omega) hD1.out).mono ?_; rintro e w2 ⟨y, hy, rfl, hD2, hK2⟩
      obtain ⟨z, hz⟩ : ∃ z : Nat, (most : Int) - y = z := ⟨most - y, by omega⟩
      have hfin : UptoOut most B d v l w (.returned (.int .i64 z)) w2 := ⟨z, by omega, rfl, hD2, hK1.out.trans hK2⟩
      have hfin' := Lib.hid hfin
      clear hfin hD2 hK2
      go_wp2_with fail
      go_ret
      exact hfin'.out
  · have e0 : ((x : Int) == 0) = false := by simp; omega
    have e1 : ((x : Int) == 1) = false := by simp; omega
    have e2 : ((x : Int) == 2) = false := by simp; omega
    have e3 : ((x : Int) == 3) = false := by simp; omega
    have hm1 : (most : Int) + 1 = ((most + 1 : Nat) : Int) := by omega
    have hm1' := Lib.hid hm1
    clear hm1
    go_wp2_with fail
    rw [hm1'.out]
    refine (next_any B d v l _ (most + 1) (by omega) (by omega) hD1.out).mono ?_; rintro e w2 ⟨y, hy, rfl, hD2, hK2⟩
    have hfin : UptoOut most B d v l w (.returned (.int .i64 y)) w2 := ⟨y, by omega, rfl, hD2, hK1.out.trans hK2⟩
    have hfin' := Lib.hid hfin
    clear hfin hD2 hK2
    go_wp2_with fail
    go_ret
    exact hfin'.out

end Go.Proofs.YtaengcbjpniclaaGreatDoor.Dk
