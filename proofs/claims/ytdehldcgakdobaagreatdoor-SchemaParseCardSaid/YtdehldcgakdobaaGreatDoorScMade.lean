/- The schemas that the statements make. -/
import Derived.Test.YtdehldcgakdobaaGreatDoorScFacts
import Derived.Test.YtdehldcgakdobaaGreatDoorScLaw0
namespace Go.Proofs.YtdehldcgakdobaaGreatDoor.Sc
open Go.RowKit Go.Lib Go.Proofs.YtdehldcgakdobaaGreatDoor.Bas Go.Proofs.YtdehldcgakdobaaGreatDoor.Cal Go.Proofs.YtdehldcgakdobaaGreatDoor.Lx
set_option linter.unusedVariables false

theorem size_alloc1 (w : World) (o : Obj) : (w.alloc o).heap.size = w.heap.size + 1 := by simp
/-- Strings, attributes in blocks from B on. -/
def StrsIn (B : Nat) (w : World) (v : Value) (l : List (List UInt8)) : Prop :=
  ∃ p c, v = .slice p l.length c ∧ (l.length ≤ c ∧ (p = none → c = 0)) ∧ (0 < l.length → ∃ b off, p = some ⟨b, off, none⟩ ∧ B ≤ b ∧ ∀ j, j < l.length → w.cell? ⟨b, off + j, none⟩ = some (.string (tx (l.getD j []))))
theorem StrsIn.at {B : Nat} {w : World} {v : Value} {l : List (List UInt8)} (h : StrsIn B w v l) : StrsAt w v l := by
  obtain ⟨p, c, hv, hc, hp⟩ := h
  exact ⟨p, c, hv, hc, fun h0 => by obtain ⟨b, off, e, _, hh⟩ := hp h0; exact ⟨b, off, e, hh⟩⟩
theorem StrsIn.mono {B C : Nat} {w : World} {v : Value} {l : List (List UInt8)} (h : StrsIn B w v l) (hc : C ≤ B) : StrsIn C w v l := by
  obtain ⟨p, c, hv, hcc, hp⟩ := h
  exact ⟨p, c, hv, hcc, fun h0 => by obtain ⟨b, off, e, hb, hh⟩ := hp h0; exact ⟨b, off, e, by omega, hh⟩⟩
theorem strsIn_nil (B : Nat) (w : World) : StrsIn B w (.slice none 0 0) [] := ⟨none, 0, rfl, ⟨Nat.le_refl _, fun _ => rfl⟩, fun h => by simp at h⟩
theorem StrsIn.below {B : Nat} {w w' : World} {v : Value} {l : List (List UInt8)} (h : StrsIn B w v l) (hb : Below w.heap.size w w') : StrsIn B w' v l := by
  obtain ⟨p, c, hv, hcc, hp⟩ := h
  refine ⟨p, c, hv, hcc, fun h0 => ?_⟩
  obtain ⟨b, off, e, hB, hh⟩ := hp h0
  have hlt : b < w.heap.size := World.block_lt_of_cell? _ _ (hh 0 h0)
  exact ⟨b, off, e, hB, fun j hj => by rw [hb.cell (p := ⟨b, off + j, none⟩) hlt]; exact hh j hj⟩
theorem StrsIn.set {B b0 o : Nat} {w : World} {v : Value} {l : List (List UInt8)} (h : StrsIn B w v l) (hb : b0 < B) (x : Value) : StrsIn B (w.setCell ⟨b0, o, none⟩ x) v l := by
  obtain ⟨p, c, hv, hcc, hp⟩ := h
  refine ⟨p, c, hv, hcc, fun h0 => ?_⟩
  obtain ⟨b, off, e, hB, hh⟩ := hp h0
  exact ⟨b, off, e, hB, fun j hj => by rw [World.cell?_setCell_other _ _ _ _ (by intro e; simp only [Addr.mk.injEq] at e; omega)]; exact hh j hj⟩
def perilA : At := ⟨[112, 101, 114, 105, 108], 1, [[102, 105, 114, 101], [102, 108, 111, 111, 100], [119, 105, 110, 100], [116, 104, 101, 102, 116]], 0, 0⟩
set_option maxHeartbeats 4000000 in
theorem peril_any (w : World) : Calls Tryz.prog 15 #[] w fun e w' => ∃ u, e = .returned (AtV perilA u) ∧ StrsIn w.heap.size w' u perilA.ws ∧ Below w.heap.size w w' := by
  go_enter Tryz.func15, Tryz.ntmps15
  go_wp2_with fail
  exact bodyPost_ret (v := AtV perilA (.slice (some ⟨w.heap.size + 1, 0, none⟩) 4 4)) (by simp [results, Tryz.results15, go_sem, AtV, perilA, tx]) rfl ⟨_, rfl, ⟨_, 4, rfl, ⟨by decide, fun e => by cases e⟩, fun _ => ⟨w.heap.size + 1, 0, rfl, Nat.le_succ _, fun j hj => by
    have hj' : j < 4 := hj
    have hc : j = 0 ∨ j = 1 ∨ j = 2 ∨ j = 3 := by omega
    rcases hc with rfl | rfl | rfl | rfl
    · rw [← size_alloc1 w (.cells #[.string { data := #[112, 101, 114, 105, 108] }, .int .i64 1, .slice (some ⟨w.heap.size + 1, 0, none⟩) 4 4, .int .i64 0, .int .i64 0] 43)]; simp [perilA, tx]
    · rw [← size_alloc1 w (.cells #[.string { data := #[112, 101, 114, 105, 108] }, .int .i64 1, .slice (some ⟨w.heap.size + 1, 0, none⟩) 4 4, .int .i64 0, .int .i64 0] 43)]; simp [perilA, tx]
    · rw [← size_alloc1 w (.cells #[.string { data := #[112, 101, 114, 105, 108] }, .int .i64 1, .slice (some ⟨w.heap.size + 1, 0, none⟩) 4 4, .int .i64 0, .int .i64 0] 43)]; simp [perilA, tx]
    · rw [← size_alloc1 w (.cells #[.string { data := #[112, 101, 114, 105, 108] }, .int .i64 1, .slice (some ⟨w.heap.size + 1, 0, none⟩) 4 4, .int .i64 0, .int .i64 0] 43)]; simp [perilA, tx]⟩⟩, trans_b (alloc_at w _) (alloc_at _ _)⟩
end Go.Proofs.YtdehldcgakdobaaGreatDoor.Sc
