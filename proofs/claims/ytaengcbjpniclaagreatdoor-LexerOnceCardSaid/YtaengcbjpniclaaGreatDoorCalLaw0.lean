/- The statements' own makers: Within, hour. -/
import Derived.Test.YtaengcbjpniclaaGreatDoorCalParse
import Derived.StillTailTactics
namespace Go.Proofs.YtaengcbjpniclaaGreatDoor.Cal
open Go.RowKit Go.Lib Go.Proofs.YtaengcbjpniclaaGreatDoor.Bas
set_option linter.unusedVariables false

def wi (x n : Int) : Int := (x.tmod n + n) % n
theorem wi_bd (x n : Int) (h : 0 < n) : 0 ≤ wi x n ∧ wi x n < n := ⟨Int.emod_nonneg _ (by omega), Int.emod_lt_of_pos _ h⟩
theorem within_any (x n : Int) (w : World) (x1 : -9223372036854775808 ≤ x) (x2 : x ≤ 9223372036854775807) (hn : 0 < n) (hn2 : n ≤ 17592186044416) :
    Calls Tryz.prog 9 #[.int .i64 x, .int .i64 n] w fun e w' => e = .returned (.int .i64 (wi x n)) ∧ w = w' := by
  have t3 : (n == 0) = false := by simp; omega
  have hb1 := Int.lt_tmod_of_pos x hn
  have hb2 := Int.tmod_lt_of_pos x hn
  go_enter Tryz.func9, Tryz.ntmps9
  go_wp2
  go_ret
  exact ⟨rfl, rfl⟩
/-- The hour that is made of a number. -/
def hw (x : Int) : Int := wi x 876600
theorem hw_bd (x : Int) : 0 ≤ hw x ∧ hw x ≤ 876599 := by have := wi_bd x 876600 (by omega); unfold hw; omega
/-- Three cells at the beginning of block b. -/
def TriAt (W : World) (b : Nat) (y m d : Int) : Prop := b < W.heap.size ∧ W.cell? ⟨b, 0, none⟩ = some (.int .i64 y) ∧ W.cell? ⟨b, 1, none⟩ = some (.int .i64 m) ∧ W.cell? ⟨b, 2, none⟩ = some (.int .i64 d) ∧
  W.frozen? ⟨b, 0, none⟩ = false ∧ W.frozen? ⟨b, 1, none⟩ = false ∧ W.frozen? ⟨b, 2, none⟩ = false
theorem TriAt.new (w : World) (y m d : Int) : TriAt (w.alloc (.cells #[.int .i64 y, .int .i64 m, .int .i64 d] 70)) w.heap.size y m d := by
  refine ⟨by simp, by simp, by simp, by simp, by simp, by simp, by simp⟩
theorem TriAt.keep {w w' : World} {b : Nat} {y m d : Int} (h : TriAt w b y m d) (hb : Below w.heap.size w w') : TriAt w' b y m d := by
  obtain ⟨h0, h1, h2, h3, h4, h5, h6⟩ := h
  refine ⟨Nat.lt_of_lt_of_le h0 hb.size, ?_, ?_, ?_, ?_, ?_, ?_⟩
  · rw [hb.cell (p := ⟨b, 0, none⟩) h0]; exact h1
  · rw [hb.cell (p := ⟨b, 1, none⟩) h0]; exact h2
  · rw [hb.cell (p := ⟨b, 2, none⟩) h0]; exact h3
  · rw [hb.frozen (p := ⟨b, 0, none⟩) h0]; exact h4
  · rw [hb.frozen (p := ⟨b, 1, none⟩) h0]; exact h5
  · rw [hb.frozen (p := ⟨b, 2, none⟩) h0]; exact h6
/-- The world with three cells of block b set. -/
theorem TriAt.set {w : World} {b : Nat} {y m d : Int} (h : TriAt w b y m d) (y' m' d' : Int) : TriAt (((w.setCell ⟨b, 0, none⟩ (.int .i64 y')).setCell ⟨b, 1, none⟩ (.int .i64 m')).setCell ⟨b, 2, none⟩ (.int .i64 d')) b y' m' d' := by
  obtain ⟨h0, h1, h2, h3, h4, h5, h6⟩ := h
  refine ⟨by simpa using h0, ?_, ?_, ?_, ?_, ?_, ?_⟩
  · rw [World.cell?_setCell_other _ _ _ _ (by simp), World.cell?_setCell_other _ _ _ _ (by simp)]; exact World.cell?_setCell_same _ _ _ h1
  · rw [World.cell?_setCell_other _ _ _ _ (by simp)]; exact World.cell?_setCell_same _ _ _ (by rw [World.cell?_setCell_other _ _ _ _ (by simp)]; exact h2)
  · exact World.cell?_setCell_same _ _ _ (by rw [World.cell?_setCell_other _ _ _ _ (by simp), World.cell?_setCell_other _ _ _ _ (by simp)]; exact h3)
  · rw [World.frozen?_setCell, World.frozen?_setCell, World.frozen?_setCell]; exact h4
  · rw [World.frozen?_setCell, World.frozen?_setCell, World.frozen?_setCell]; exact h5
  · rw [World.frozen?_setCell, World.frozen?_setCell, World.frozen?_setCell]; exact h6
theorem below_set3 {B : Nat} {a w : World} (h : Below B a w) {b : Nat} (hb : B ≤ b) (y m d : Int) : Below B a (((w.setCell ⟨b, 0, none⟩ (.int .i64 y)).setCell ⟨b, 1, none⟩ (.int .i64 m)).setCell ⟨b, 2, none⟩ (.int .i64 d)) := ((h.setCell hb _).setCell hb _).setCell hb _
end Go.Proofs.YtaengcbjpniclaaGreatDoor.Cal
