/- Slices of bytes among the arguments. -/
import Derived.Test.YtdehldcgakdobaaGreatDoorIntsB
namespace Go.Proofs.YtdehldcgakdobaaGreatDoor.Lx
open Go.RowKit Go.WideShapes Go.ChangeShapes Go.Proofs.YtdehldcgakdobaaGreatDoor.Bas Go.Proofs.YtdehldcgakdobaaGreatDoor.Ints
set_option linter.unusedVariables false

theorem cells_u8s : Tryz.prog.cellsOf 5 = 1 := by kernel_rfl
theorem opened_u8 {H : Type} {enc : TypeId × Value → H} {W : World} {e : Option Addr} {len cap : Nat} {d : DataW H} {p : List MemPlace}
    (h0 : DataW.Trod enc Tryz.prog W 0 (fun _ => true) true 39 (.slice e len cap) d p) :
    ∃ l : List Int, NumsAt .u8 W (.slice e len cap) l ∧ l.length ≤ 9223372036854775807 ∧ (∀ x ∈ l, (Lit.int .u8 x).wf = true) := by
  obtain ⟨fuel, hf⟩ := h0
  rcases open_ints Tryz.underlying39 Tryz.underlying5 cells_u8s hf with ⟨hcs, hx⟩ | ⟨a, len', cap', zs, hcs, _, hl, hm, hz, hx, hcell, hwz⟩
  · simp [Value.cells] at hcs
    obtain ⟨rfl, rfl, rfl⟩ := hcs
    exact ⟨[], ⟨none, 0, rfl, fun h => by simp at h⟩, by simp, by simp⟩
  · simp [Value.cells] at hcs
    obtain ⟨rfl, rfl, rfl⟩ := hcs
    simp only [if_true] at hz
    have hlen : (zs.take len).length = len := by rw [List.length_take]; omega
    refine ⟨zs.take len, ⟨some a, cap, by rw [hlen], fun h => ?_⟩, ?_, fun x hx => hwz x (List.mem_of_mem_take hx)⟩
    · rw [hlen] at h ⊢
      obtain ⟨b, off, rfl, hc⟩ := ints_at hcell (by omega)
      refine ⟨b, off, rfl, fun j hj => ?_⟩
      rw [hc j (by omega)]
      simp [List.getD_eq_getElem?_getD, hj]
    · rw [hlen]; unfold maxLen at hm; omega
theorem nums_below {k : IntKind} {w w' : World} {v : Value} {l : List Int} (h : NumsAt k w v l) (hb : Below w.heap.size w w') : NumsAt k w' v l := by
  obtain ⟨p, c, rfl, hp⟩ := h
  refine ⟨p, c, rfl, fun h0 => ?_⟩
  obtain ⟨b, off, rfl, hc⟩ := hp h0
  have hlt : b < w.heap.size := World.block_lt_of_cell? _ _ (hc 0 h0)
  exact ⟨b, off, rfl, fun j hj => by rw [hb.cell (p := ⟨b, off + j, none⟩) hlt]; exact hc j hj⟩
end Go.Proofs.YtdehldcgakdobaaGreatDoor.Lx
