/- The statements' word of a deck. -/
import Derived.Test.YtaengcbjpniclaaGreatDoorDeckUp
import Derived.Test.YtaengcbjpniclaaGreatDoorDeckHour
import Derived.Test.YtaengcbjpniclaaGreatDoorLxRow
namespace Go.Proofs.YtaengcbjpniclaaGreatDoor.Lx
open Go.RowKit Go.Lib Go.Proofs.YtaengcbjpniclaaGreatDoor.Bas Go.Proofs.YtaengcbjpniclaaGreatDoor.Cal Go.Proofs.YtaengcbjpniclaaGreatDoor.Spl Go.Proofs.YtaengcbjpniclaaGreatDoor.Dk
set_option linter.unusedVariables false

/-- A word of the deck's; the deck has gone on. -/
def WdOut (B d : Nat) (v : Value) (l : List Int) (w : World) (e : Ending) (w' : World) : Prop := ∃ u : List UInt8, wordB u = true ∧ e = .returned (.string (tx u)) ∧ Deck B w' d v l ∧ Kept d w w'
theorem kept_cell {d : Nat} {w w' : World} {p : Addr} (k : Kept d w w') (h : p.block < w.heap.size) (hd : p.block ≠ d) : w'.cell? p = w.cell? p := World.cell?_of_block (k.block p.block h hd)
set_option maxHeartbeats 4000000 in
theorem wd_any (B d : Nat) (v : Value) (l : List Int) (w : World) (h : Deck B w d v l) :
    Calls Tryz.prog 22 #[.pointer (some ⟨d, 0, none⟩)] w (WdOut B d v l w) := by
  have hd := h.lt
  have hD := Lib.hid (h.below ((Below.refl w.heap.size w).alloc (Nat.le_refl _) (.cells #[.string { data := #[97] }, .string { data := #[98, 45, 50] }, .string { data := #[102, 105, 114, 101] }, .string { data := #[110, 111, 116] }, .string { data := #[97, 110, 100] }, .string { data := #[117, 110, 108, 101, 115, 115] }, .string { data := #[120] }, .string { data := #[101, 110, 100] }, .string { data := #[97, 98, 99, 100, 101, 102, 103, 104, 105, 106, 107, 108, 109, 110, 111, 112] }, .string { data := #[102, 114, 111, 109] }] 9)))
  have hK := Lib.hid ((Kept.refl d w).alloc (.cells #[.string { data := #[97] }, .string { data := #[98, 45, 50] }, .string { data := #[102, 105, 114, 101] }, .string { data := #[110, 111, 116] }, .string { data := #[97, 110, 100] }, .string { data := #[117, 110, 108, 101, 115, 115] }, .string { data := #[120] }, .string { data := #[101, 110, 100] }, .string { data := #[97, 98, 99, 100, 101, 102, 103, 104, 105, 106, 107, 108, 109, 110, 111, 112] }, .string { data := #[102, 114, 111, 109] }] 9))
  clear h
  go_enter Tryz.func22, Tryz.ntmps22
  go_wp2_with fail
  refine (next_any B d v l _ 10 (by omega) (by omega) hD.out).mono ?_; rintro e W1 ⟨x, hx, rfl, hD1, hK1⟩
  have K1 := Lib.hid (hK.out.trans hK1)
  have D1 := Lib.hid hD1
  have g0 : W1.cell? ⟨w.heap.size, 0, none⟩ = some (.string { data := #[97] }) := by rw [kept_cell (p := ⟨w.heap.size, 0, none⟩) hK1 (by simp) (by show w.heap.size ≠ d; omega)]; simp
  have g1 : W1.cell? ⟨w.heap.size, 1, none⟩ = some (.string { data := #[98, 45, 50] }) := by rw [kept_cell (p := ⟨w.heap.size, 1, none⟩) hK1 (by simp) (by show w.heap.size ≠ d; omega)]; simp
  have g2 : W1.cell? ⟨w.heap.size, 2, none⟩ = some (.string { data := #[102, 105, 114, 101] }) := by rw [kept_cell (p := ⟨w.heap.size, 2, none⟩) hK1 (by simp) (by show w.heap.size ≠ d; omega)]; simp
  have g3 : W1.cell? ⟨w.heap.size, 3, none⟩ = some (.string { data := #[110, 111, 116] }) := by rw [kept_cell (p := ⟨w.heap.size, 3, none⟩) hK1 (by simp) (by show w.heap.size ≠ d; omega)]; simp
  have g4 : W1.cell? ⟨w.heap.size, 4, none⟩ = some (.string { data := #[97, 110, 100] }) := by rw [kept_cell (p := ⟨w.heap.size, 4, none⟩) hK1 (by simp) (by show w.heap.size ≠ d; omega)]; simp
  have g5 : W1.cell? ⟨w.heap.size, 5, none⟩ = some (.string { data := #[117, 110, 108, 101, 115, 115] }) := by rw [kept_cell (p := ⟨w.heap.size, 5, none⟩) hK1 (by simp) (by show w.heap.size ≠ d; omega)]; simp
  have g6 : W1.cell? ⟨w.heap.size, 6, none⟩ = some (.string { data := #[120] }) := by rw [kept_cell (p := ⟨w.heap.size, 6, none⟩) hK1 (by simp) (by show w.heap.size ≠ d; omega)]; simp
  have g7 : W1.cell? ⟨w.heap.size, 7, none⟩ = some (.string { data := #[101, 110, 100] }) := by rw [kept_cell (p := ⟨w.heap.size, 7, none⟩) hK1 (by simp) (by show w.heap.size ≠ d; omega)]; simp
  have g8 : W1.cell? ⟨w.heap.size, 8, none⟩ = some (.string { data := #[97, 98, 99, 100, 101, 102, 103, 104, 105, 106, 107, 108, 109, 110, 111, 112] }) := by rw [kept_cell (p := ⟨w.heap.size, 8, none⟩) hK1 (by simp) (by show w.heap.size ≠ d; omega)]; simp
  have g9 : W1.cell? ⟨w.heap.size, 9, none⟩ = some (.string { data := #[102, 114, 111, 109] }) := by rw [kept_cell (p := ⟨w.heap.size, 9, none⟩) hK1 (by simp) (by show w.heap.size ≠ d; omega)]; simp
  clear hD1 hK1 hD hK
  have hx10 : x = 0 ∨ x = 1 ∨ x = 2 ∨ x = 3 ∨ x = 4 ∨ x = 5 ∨ x = 6 ∨ x = 7 ∨ x = 8 ∨ x = 9 := by omega
  clear hx
  rcases hx10 with rfl | rfl | rfl | rfl | rfl | rfl | rfl | rfl | rfl | rfl
  · go_wp2_with fail
    go_ret
    exact ⟨[97], by decide +kernel, rfl, D1.out, K1.out⟩
  · go_wp2_with fail
    go_ret
    exact ⟨[98, 45, 50], by decide +kernel, rfl, D1.out, K1.out⟩
  · go_wp2_with fail
    go_ret
    exact ⟨[102, 105, 114, 101], by decide +kernel, rfl, D1.out, K1.out⟩
  · go_wp2_with fail
    go_ret
    exact ⟨[110, 111, 116], by decide +kernel, rfl, D1.out, K1.out⟩
  · go_wp2_with fail
    go_ret
    exact ⟨[97, 110, 100], by decide +kernel, rfl, D1.out, K1.out⟩
  · go_wp2_with fail
    go_ret
    exact ⟨[117, 110, 108, 101, 115, 115], by decide +kernel, rfl, D1.out, K1.out⟩
  · go_wp2_with fail
    go_ret
    exact ⟨[120], by decide +kernel, rfl, D1.out, K1.out⟩
  · go_wp2_with fail
    go_ret
    exact ⟨[101, 110, 100], by decide +kernel, rfl, D1.out, K1.out⟩
  · go_wp2_with fail
    go_ret
    exact ⟨[97, 98, 99, 100, 101, 102, 103, 104, 105, 106, 107, 108, 109, 110, 111, 112], by decide +kernel, rfl, D1.out, K1.out⟩
  · go_wp2_with fail
    go_ret
    exact ⟨[102, 114, 111, 109], by decide +kernel, rfl, D1.out, K1.out⟩
end Go.Proofs.YtaengcbjpniclaaGreatDoor.Lx
