/- The deck: Hour, Period. -/
import Derived.Test.YtlhgjhdeidhibaaDoorDeck0
namespace Go.Proofs.YtlhgjhdeidhibaaDoor.Dk
open Go.RowKit Go.Lib Go.Proofs.YtlhgjhdeidhibaaDoor.Bas Go.Proofs.YtlhgjhdeidhibaaDoor.Spl
set_option linter.unusedVariables false

set_option maxHeartbeats 2000000 in
theorem dhour_any (B d : Nat) (v : Value) (l : List Int) (w : World) (h : Deck B w d v l) :
    Calls Tryd.prog 34 #[.pointer (some ⟨d, 0, none⟩)] w (NextOut 876600 B d v l w) := by
  have hD := Lib.hid h
  clear h
  go_enter Tryd.func34, Tryd.ntmps34
  go_wp2_with fail
  refine (next_any B d v l _ 4 (by omega) (by omega) hD.out).mono ?_; rintro e w1 ⟨x, hx, rfl, hD1, hK1⟩
  have hD1 := Lib.hid hD1
  have hK1 := Lib.hid hK1
  clear hD
  have hx4 : x = 0 ∨ x = 1 ∨ x = 2 ∨ x = 3 := by omega
  clear hx
  rcases hx4 with rfl | rfl | rfl | rfl
  · go_wp2_with fail
    refine (next_any B d v l _ 60 (by omega) (by omega) hD1.out).mono ?_; rintro e w2 ⟨y, hy, rfl, hD2, hK2⟩
    have hfin : NextOut 876600 B d v l w (.returned (.int .i64 y)) w2 := ⟨y, by omega, rfl, hD2, hK1.out.trans hK2⟩
    have hfin' := Lib.hid hfin
    clear hfin hD2 hK2
    go_wp2_with fail
    go_ret
    exact hfin'.out
  · go_wp2_with fail
    refine (next_any B d v l _ 20000 (by omega) (by omega) hD1.out).mono ?_; rintro e w2 ⟨y, hy, rfl, hD2, hK2⟩
    have hfin : NextOut 876600 B d v l w (.returned (.int .i64 y)) w2 := ⟨y, by omega, rfl, hD2, hK1.out.trans hK2⟩
    have hfin' := Lib.hid hfin
    clear hfin hD2 hK2
    go_wp2_with fail
    go_ret
    exact hfin'.out
  · go_wp2_with fail
    refine (next_any B d v l _ 50 (by omega) (by omega) hD1.out).mono ?_; rintro e w2 ⟨y, hy, rfl, hD2, hK2⟩
    have hfin : NextOut 876600 B d v l w (.returned (.int .i64 (876599 - y))) w2 := ⟨876599 - y, by omega, by rw [show ((876599 - y : Nat) : Int) = 876599 - (y : Int) by omega], hD2, hK1.out.trans hK2⟩
    have hfin' := Lib.hid hfin
    clear hfin hD2 hK2
    go_wp2_with fail
    go_ret
    exact hfin'.out
  · go_wp2_with fail
    refine (next_any B d v l _ 876600 (by omega) (by omega) hD1.out).mono ?_; rintro e w2 ⟨y, hy, rfl, hD2, hK2⟩
    have hfin : NextOut 876600 B d v l w (.returned (.int .i64 y)) w2 := ⟨y, by omega, rfl, hD2, hK1.out.trans hK2⟩
    have hfin' := Lib.hid hfin
    clear hfin hD2 hK2
    go_wp2_with fail
    go_ret
    exact hfin'.out

/-- A store elsewhere. -/
theorem Deck.other {B : Nat} {w : World} {d : Nat} {v : Value} {l : List Int} (h : Deck B w d v l) {b : Nat} (hb : b ≠ d) (hB : B ≤ b) (o : Nat) (u : Value) : Deck B (w.setCell ⟨b, o, none⟩ u) d v l := by
  obtain ⟨k0, hk0, hc⟩ := h.c1
  refine ⟨h.ge, by simpa using h.lt, ?_, ⟨k0, hk0, ?_⟩, ?_, ints_set h.ints h.blk hB _, h.blk, h.len, h.wf⟩
  · rw [World.cell?_setCell_other _ _ _ _ (by intro e; simp only [Addr.mk.injEq] at e; omega)]; exact h.c0
  · rw [World.cell?_setCell_other _ _ _ _ (by intro e; simp only [Addr.mk.injEq] at e; omega)]; exact hc
  · rw [World.frozen?_setCell]; exact h.fz
theorem Kept.setNew {d : Nat} {a w : World} (h : Kept d a w) {b : Nat} (hb : a.heap.size ≤ b) (o : Nat) (u : Value) : Kept d a (w.setCell ⟨b, o, none⟩ u) :=
  ⟨h.os, h.tape, h.output, by have := h.size; simpa [World.setCell] using this, fun k hk hd => (Below.heap_setCell _ _ _ _ (by show k ≠ b; omega)).trans (h.block k hk hd)⟩

/-- A period of hours; the deck has gone on. -/
def PerOut (B d : Nat) (v : Value) (l : List Int) (w : World) (e : Ending) (w' : World) : Prop := ∃ f t : Int, 0 ≤ f ∧ f < t ∧ t ≤ 876600 ∧ e = .returned (.agg #[.int .i64 f, .int .i64 t]) ∧ Deck B w' d v l ∧ Kept d w w'
set_option maxHeartbeats 2000000 in
theorem period_any (B d : Nat) (v : Value) (l : List Int) (w : World) (h : Deck B w d v l) :
    Calls Tryd.prog 33 #[.pointer (some ⟨d, 0, none⟩)] w (PerOut B d v l w) := by
  have hD := Lib.hid (h.below ((Below.refl w.heap.size w).alloc (Nat.le_refl _) (.cells #[.int .i64 0, .int .i64 0] 46)))
  have hK0 := Lib.hid ((Kept.refl d w).alloc (.cells #[.int .i64 0, .int .i64 0] 46))
  have hne := h.lt
  have hlt0 : w.heap.size < (w.alloc (.cells #[.int .i64 0, .int .i64 0] 46)).heap.size := by simp
  have hlt := Lib.hid hlt0
  clear h hlt0
  go_enter Tryd.func33, Tryd.ntmps33
  go_wp2_with fail
  refine (dhour_any B d v l _ hD.out).mono ?_; rintro e w1 ⟨x, hx, rfl, hD1, hK1⟩
  have hD1 := Lib.hid hD1
  have hK1 := Lib.hid hK1
  clear hD
  go_wp2_with fail
  refine (dhour_any B d v l _ hD1.out).mono ?_; rintro e w2 ⟨y, hy, rfl, hD2, hK2⟩
  have hk := hK1.out.trans hK2
  have e1 := hk.block w.heap.size hlt.out (by omega)
  have c0 : w2.cell? ⟨w.heap.size, 0, none⟩ = some (.int .i64 0) := by rw [World.cell?_of_block (w := w.alloc (.cells #[.int .i64 0, .int .i64 0] 46)) (a := ⟨w.heap.size, 0, none⟩) e1]; simp
  have c1 : w2.cell? ⟨w.heap.size, 1, none⟩ = some (.int .i64 0) := by rw [World.cell?_of_block (w := w.alloc (.cells #[.int .i64 0, .int .i64 0] 46)) (a := ⟨w.heap.size, 1, none⟩) e1]; simp
  have f0 : w2.frozen? ⟨w.heap.size, 0, none⟩ = false := by rw [World.frozen?_of_block (w := w.alloc (.cells #[.int .i64 0, .int .i64 0] 46)) (a := ⟨w.heap.size, 0, none⟩) e1]; simp
  have f1 : w2.frozen? ⟨w.heap.size, 1, none⟩ = false := by rw [World.frozen?_of_block (w := w.alloc (.cells #[.int .i64 0, .int .i64 0] 46)) (a := ⟨w.heap.size, 1, none⟩) e1]; simp
  have hK3 := Lib.hid (hK0.out.trans hk)
  have hD2 := Lib.hid hD2
  clear hk e1 hK2 hK1 hD1
  by_cases hxy : (x : Int) < (y : Int)
  · have hyx : ¬ ((y : Int) < (x : Int)) := by omega
    go_wp2_with fail
    exact bodyPost_ret (v := .agg #[.int .i64 x, .int .i64 (y + 1)]) (by simp [results, Tryd.results33, go_sem, c0, c1]) rfl
      ⟨x, y + 1, by omega, by omega, by omega, rfl, (hD2.out.other (by omega) (by have := hD2.out.ge; omega) _ _).other (by omega) (by have := hD2.out.ge; omega) _ _, (hK3.out.setNew (Nat.le_refl _) _ _).setNew (Nat.le_refl _) _ _⟩
  by_cases hyx : (y : Int) < (x : Int)
  · have hxy2 : (y : Int) ≤ (x : Int) := by omega
    go_wp2_with fail
    exact bodyPost_ret (v := .agg #[.int .i64 y, .int .i64 (x + 1)]) (by simp [results, Tryd.results33, go_sem, c0, c1]) rfl
      ⟨y, x + 1, by omega, by omega, by omega, rfl, (hD2.out.other (by omega) (by have := hD2.out.ge; omega) _ _).other (by omega) (by have := hD2.out.ge; omega) _ _, (hK3.out.setNew (Nat.le_refl _) _ _).setNew (Nat.le_refl _) _ _⟩
  · obtain rfl : x = y := by omega
    clear hxy hyx
    go_wp2_with fail
    exact bodyPost_ret (v := .agg #[.int .i64 x, .int .i64 (x + 1)]) (by simp [results, Tryd.results33, go_sem, c0, c1]) rfl
      ⟨x, x + 1, by omega, by omega, by omega, rfl, (hD2.out.other (by omega) (by have := hD2.out.ge; omega) _ _).other (by omega) (by have := hD2.out.ge; omega) _ _, (hK3.out.setNew (Nat.le_refl _) _ _).setNew (Nat.le_refl _) _ _⟩
end Go.Proofs.YtlhgjhdeidhibaaDoor.Dk
