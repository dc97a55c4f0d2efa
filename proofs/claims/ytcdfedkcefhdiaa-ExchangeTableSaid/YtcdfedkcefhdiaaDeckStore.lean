/- The deck: stores elsewhere. -/
import Derived.Test.YtcdfedkcefhdiaaDeck0
namespace Go.Proofs.Ytcdfedkcefhdiaa.Dk
open Go.RowKit Go.Lib Go.Proofs.Ytcdfedkcefhdiaa.Bas Go.Proofs.Ytcdfedkcefhdiaa.Spl
set_option linter.unusedVariables false
/-- A store elsewhere. -/
theorem Deck.oth {B : Nat} {w : World} {d : Nat} {v : Value} {l : List Int} (h : Deck B w d v l) {b : Nat} (hb : b ≠ d) (hB : B ≤ b) (o : Nat) (u : Value) : Deck B (w.setCell ⟨b, o, none⟩ u) d v l := by
  obtain ⟨k0, hk0, hc⟩ := h.c1
  refine ⟨h.ge, by simpa using h.lt, ?_, ⟨k0, hk0, ?_⟩, ?_, ints_set h.ints h.blk hB _, h.blk, h.len, h.wf⟩
  · rw [World.cell?_setCell_other _ _ _ _ (by intro e; simp only [Addr.mk.injEq] at e; omega)]; exact h.c0
  · rw [World.cell?_setCell_other _ _ _ _ (by intro e; simp only [Addr.mk.injEq] at e; omega)]; exact hc
  · rw [World.frozen?_setCell]; exact h.fz
theorem Kept.setN {d : Nat} {a w : World} (h : Kept d a w) {b : Nat} (hb : a.heap.size ≤ b) (o : Nat) (u : Value) : Kept d a (w.setCell ⟨b, o, none⟩ u) :=
  ⟨h.os, h.tape, h.output, by have := h.size; simpa [World.setCell] using this, fun k hk hd => (Below.heap_setCell _ _ _ _ (by show k ≠ b; omega)).trans (h.block k hk hd)⟩
end Go.Proofs.Ytcdfedkcefhdiaa.Dk
