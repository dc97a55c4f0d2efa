/- A struct of two ints in a block; rows of amounts beside it. -/
import Derived.Test.YtcdfedkcefhdiaaExcRow
namespace Go.Proofs.Ytcdfedkcefhdiaa.Exc
open Go.RowKit Go.Lib Go.Proofs.Ytcdfedkcefhdiaa.Bas Go.Proofs.Ytcdfedkcefhdiaa.Spl
set_option linter.unusedVariables false

/-- Two cells of a block. -/
def CAt (W : World) (b : Nat) (c a : Int) : Prop := b < W.heap.size ∧ W.cell? ⟨b, 0, none⟩ = some (.int .i64 c) ∧ W.cell? ⟨b, 1, none⟩ = some (.int .i64 a) ∧ W.frozen? ⟨b, 0, none⟩ = false ∧ W.frozen? ⟨b, 1, none⟩ = false
theorem CAt.new (w : World) (c a : Int) (t : TypeId) : CAt (w.alloc (.cells #[.int .i64 c, .int .i64 a] t)) w.heap.size c a := by
  refine ⟨by simp, by simp, by simp, by simp, by simp⟩
theorem CAt.keep {w w' : World} {b : Nat} {c a : Int} (h : CAt w b c a) (hb : Below w.heap.size w w') : CAt w' b c a := by
  obtain ⟨h0, h1, h2, h3, h4⟩ := h
  refine ⟨Nat.lt_of_lt_of_le h0 hb.size, ?_, ?_, ?_, ?_⟩
  · rw [hb.cell (p := ⟨b, 0, none⟩) h0]; exact h1
  · rw [hb.cell (p := ⟨b, 1, none⟩) h0]; exact h2
  · rw [hb.frozen (p := ⟨b, 0, none⟩) h0]; exact h3
  · rw [hb.frozen (p := ⟨b, 1, none⟩) h0]; exact h4
theorem CAt.set {w : World} {b : Nat} {c a : Int} (h : CAt w b c a) (z : Int) : CAt (w.setCell ⟨b, 1, none⟩ (.int .i64 z)) b c z := by
  obtain ⟨h0, h1, h2, h3, h4⟩ := h
  refine ⟨by simpa using h0, ?_, World.cell?_setCell_same _ _ _ h2, ?_, ?_⟩
  · rw [World.cell?_setCell_other _ _ _ _ (by simp)]; exact h1
  · rw [World.frozen?_setCell]; exact h3
  · rw [World.frozen?_setCell]; exact h4
theorem crow_other {B b o : Nat} {w : World} {v : Value} {L : List Cs} (h : CRow B w v L) (hb : v.ownBlock ≠ some b) (u : Value) : CRow B (w.setCell ⟨b, o, none⟩ u) v L := by
  obtain ⟨h1, h2⟩ := h
  refine ⟨h1, ?_⟩
  rcases h2 with h2 | ⟨g, cap, cur, hv, hg, hh, r⟩
  · exact Or.inl h2
  · refine Or.inr ⟨g, cap, cur, hv, hg, ?_, r⟩
    rw [Below.heap_setCell _ _ _ _ (fun e => hb (by subst hv; rw [show g = b from e]; rfl))]; exact hh
theorem crow_block {B : Nat} {w : World} {v : Value} {L : List Cs} (h : CRow B w v L) : ∀ g, v.ownBlock = some g → B ≤ g ∧ g < w.heap.size := World.ownsRow.lt h
end Go.Proofs.Ytcdfedkcefhdiaa.Exc
