/- What a call finds in memory: the table of the powers of ten (and what strconv.Atoi and strings.SplitN read). -/
import Derived.Test.YtdehldcgakdobaaGreatDoorScCon
import Derived.Test.YtdehldcgakdobaaGreatDoorStock
namespace Go.Proofs.YtdehldcgakdobaaGreatDoor.Sc
open Go.RowKit Go.Lib Go.Proofs.YtdehldcgakdobaaGreatDoor.Bas Go.Proofs.YtdehldcgakdobaaGreatDoor.Cal Go.Proofs.YtdehldcgakdobaaGreatDoor.Lx
set_option linter.unusedVariables false

theorem var_keep {w w' : World} {nm : String} {cs : Array Value} (h : w.var? Tryz.prog nm = some cs) (hb : Below w.heap.size w w') : w'.var? Tryz.prog nm = some cs := by
  unfold World.var? at h ⊢
  cases hg : Tryz.prog.globalNamed nm with
  | none => rw [hg] at h; simp at h
  | some g =>
    rw [hg] at h
    simp only [Option.bind_some] at h ⊢
    have hlt : g < w.heap.size := by
      by_cases e : g < w.heap.size
      · exact e
      · rw [Array.getElem?_eq_none (by omega)] at h; simp at h
    rw [hb.block g hlt]
    exact h
theorem pow_keep {w w' : World} (h : Lib.TabIs Tryz.prog w powName .u64 Lib.pow10Tab) (hb : Below w.heap.size w w') : Lib.TabIs Tryz.prog w' powName .u64 Lib.pow10Tab := var_keep h hb
structure EnvS (w : World) : Prop where
  pow : Lib.TabIs Tryz.prog w powName .u64 Lib.pow10Tab
  rng : ∃ tp p, w.var? Tryz.prog "strconv.ErrRange" = some #[.iface tp p]
  syn : ∃ tp p, w.var? Tryz.prog "strconv.ErrSyntax" = some #[.iface tp p]
  mx : ∃ m, w.cell? ⟨0, 0, none⟩ = some (.int .i64 m)
theorem EnvS.keep {w w' : World} (h : EnvS w) (hb : Below w.heap.size w w') : EnvS w' := by
  obtain ⟨h1, ⟨t1, p1, h2⟩, ⟨t2, p2, h3⟩, ⟨m, h4⟩⟩ := h
  exact ⟨pow_keep h1 hb, ⟨t1, p1, var_keep h2 hb⟩, ⟨t2, p2, var_keep h3 hb⟩, ⟨m, by rw [hb.cell (p := ⟨0, 0, none⟩) (World.block_lt_of_cell? _ _ h4)]; exact h4⟩⟩
theorem EnvS.drewN {w : World} (h : EnvS w) (n : Nat) : EnvS (w.drewN n) := by
  exact ⟨h.pow, h.rng, h.syn, h.mx⟩
theorem evS : Ev EnvS := ⟨fun h hb => h.keep hb, fun n h => h.drewN n⟩
end Go.Proofs.YtdehldcgakdobaaGreatDoor.Sc
