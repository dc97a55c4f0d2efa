/- The deck: Hour, Period. -/
import Derived.Test.YtaengcbjpniclaaGreatDoorDeck0
namespace Go.Proofs.YtaengcbjpniclaaGreatDoor.Dk
open Go.RowKit Go.Lib Go.Proofs.YtaengcbjpniclaaGreatDoor.Bas Go.Proofs.YtaengcbjpniclaaGreatDoor.Spl
set_option linter.unusedVariables false

set_option maxHeartbeats 2000000 in
theorem dhour_any (B d : Nat) (v : Value) (l : List Int) (w : World) (h : Deck B w d v l) :
    Calls Tryz.prog 24 #[.pointer (some ⟨d, 0, none⟩)] w (NextOut 876600 B d v l w) := by
  have hD := Lib.hid h
  clear h
  go_enter Tryz.func24, Tryz.ntmps24
  go_wp2_with fail
  refine (next_any B d v l _ 4 (by omega) (by omega) hD.out).mono ?_; rintro e w1 ⟨x, hx, rfl, hD1, hK1⟩
  have hD1 := Lib.hid hD1
  have hK1 := Lib.hid hK1
  clear hD
  have hx4 : x = 0 ∨ x = 1 ∨ x = 2 ∨ x = 3 := by omega
  clear hx
  rcases hx4 with rfl | rfl | rfl | rfl
  · go_wp2_with fail
    refine (next_any B d v l _ 60 (by omega) (by omega) hD1.out).mono ?_; rintro e w2 ⟨y, hy, rfl, hD2, hK2⟩
    have hfin : NextOut 876600 B d v l w (.returned (.int .i64 y)) w2 := ⟨y, by omega, rfl, hD2, hK1.out.trans hK2⟩
    have hfin' := Lib.hid hfin
    clear hfin hD2 hK2
    go_wp2_with fail
    go_ret
    exact hfin'.out
  · go_wp2_with fail
    refine (next_any B d v l _ 20000 (by omega) (by omega) hD1.out).mono ?_; rintro e w2 ⟨y, hy, rfl, hD2, hK2⟩
    have hfin : NextOut 876600 B d v l w (.returned (.int .i64 y)) w2 := ⟨y, by omega, rfl, hD2, hK1.out.trans hK2⟩
    have hfin' := Lib.hid hfin
    clear hfin hD2 hK2
    go_wp2_with fail
    go_ret
    exact hfin'.out
  · go_wp2_with fail
    refine (next_any B d v l _ 50 (by omega) (by omega) hD1.out).mono ?_; rintro e w2 ⟨y, hy, rfl, hD2, hK2⟩
    have hfin : NextOut 876600 B d v l w (.returned (.int .i64 (876599 - y))) w2 := ⟨876599 - y, by omega, by rw [show ((876599 - y : Nat) : Int) = 876599 - (y : Int) by omega], hD2, hK1.out.trans hK2⟩
    have hfin' := Lib.hid hfin
    clear hfin hD2 hK2
    go_wp2_with fail
    go_ret
    exact hfin'.out
  · go_wp2_with fail
    refine (next_any B d v l _ 876600 (by omega) (by omega) hD1.out).mono ?_; rintro e w2 ⟨y, hy, rfl, hD2, hK2⟩
    have hfin : NextOut 876600 B d v l w (.returned (.int .i64 y)) w2 := ⟨y, by omega, rfl, hD2, hK1.out.trans hK2⟩
    have hfin' := Lib.hid hfin
    clear hfin hD2 hK2
    go_wp2_with fail
    go_ret
    exact hfin'.out

/-- A store elsewhere. -/
theorem Deck.other {B : Nat} {w : World} {d : Nat} {v : Value} {l : List Int} (h : Deck B w d v l) {b : Nat} (hb : b ≠ d) (hB : B ≤ b) (o : Nat) (u : Value) : Deck B (w.setCell ⟨b, o, none⟩ u) d v l := by
  obtain ⟨k0, hk0, hc⟩ := h.c1
  refine ⟨h.ge, by simpa using h.lt, ?_, ⟨k0, hk0, ?_⟩, ?_, ints_set h.ints h.blk hB _, h.blk, h.len, h.wf⟩
  · rw [World.cell?_setCell_other _ _ _ _ (by intro e; simp only [Addr.mk.injEq] at e; omega)]; exact h.c0
  · rw [World.cell?_setCell_other _ _ _ _ (by intro e; simp only [Addr.mk.injEq] at e; omega)]; exact hc
  · rw [World.frozen?_setCell]; exact h.fz
theorem Kept.setNew {d : Nat} {a w : World} (h : Kept d a w) {b : Nat} (hb : a.heap.size ≤ b) (o : Nat) (u : Value) : Kept d a (w.setCell ⟨b, o, none⟩ u) :=
  ⟨h.os, h.tape, h.output, by have := h.size; simpa [World.setCell] using this, fun k hk hd => (Below.heap_setCell _ _ _ _ (by show k ≠ b; omega)).trans (h.block k hk hd)⟩

end Go.Proofs.YtaengcbjpniclaaGreatDoor.Dk
