/- Slices of uint16 among the arguments. -/
import Derived.Test.YtnjghcncibogeaaIntsB
namespace Go.Proofs.Ytnjghcncibogeaa.Ints
open Go.RowKit Go.WideShapes Go.ChangeShapes Go.Proofs.Ytnjghcncibogeaa.Bas
set_option linter.unusedVariables false

theorem cells_u16s : Try.prog.cellsOf 35 = 1 := by kernel_rfl
theorem opened_u16 {H : Type} {enc : TypeId × Value → H} {W : World} {e : Option Addr} {len cap : Nat} {d : DataW H} {p : List MemPlace}
    (h0 : DataW.Trod enc Try.prog W 0 (fun _ => true) true 34 (.slice e len cap) d p) :
    ∃ l : List Int, NumsAt .u16 W (.slice e len cap) l ∧ l.length ≤ 9223372036854775807 ∧ (∀ x ∈ l, (Lit.int .u16 x).wf = true) := by
  obtain ⟨fuel, hf⟩ := h0
  rcases open_ints Try.underlying34 Try.underlying35 cells_u16s hf with ⟨hcs, hx⟩ | ⟨a, len', cap', zs, hcs, _, hl, hm, hz, hx, hcell, hwz⟩
  · simp [Value.cells] at hcs
    obtain ⟨rfl, rfl, rfl⟩ := hcs
    exact ⟨[], ⟨none, 0, rfl, fun h => by simp at h⟩, by simp, by simp⟩
  · simp [Value.cells] at hcs
    obtain ⟨rfl, rfl, rfl⟩ := hcs
    simp only [if_true] at hz
    have hlen : (zs.take len).length = len := by rw [List.length_take]; omega
    refine ⟨zs.take len, ⟨some a, cap, by rw [hlen], fun h => ?_⟩, ?_, fun x hx => hwz x (List.mem_of_mem_take hx)⟩
    · rw [hlen] at h ⊢
      obtain ⟨b, off, rfl, hc⟩ := ints_at hcell (by omega)
      refine ⟨b, off, rfl, fun j hj => ?_⟩
      rw [hc j (by omega)]
      simp [List.getD_eq_getElem?_getD, hj]
    · rw [hlen]; unfold maxLen at hm; omega

end Go.Proofs.Ytnjghcncibogeaa.Ints
