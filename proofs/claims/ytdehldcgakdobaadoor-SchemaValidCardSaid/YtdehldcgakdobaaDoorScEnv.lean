/- What a call finds in memory: the table of the powers of ten (and what strconv.Atoi and strings.SplitN read). -/
import Derived.Test.YtdehldcgakdobaaDoorScCon
import Derived.Test.YtdehldcgakdobaaDoorStock
namespace Go.Proofs.YtdehldcgakdobaaDoor.Sc
open Go.RowKit Go.Lib Go.Proofs.YtdehldcgakdobaaDoor.Bas Go.Proofs.YtdehldcgakdobaaDoor.Cal Go.Proofs.YtdehldcgakdobaaDoor.Lx
set_option linter.unusedVariables false

theorem var_keep {w w' : World} {nm : String} {cs : Array Value} (h : w.var? Tryd.prog nm = some cs) (hb : Below w.heap.size w w') : w'.var? Tryd.prog nm = some cs := by
  unfold World.var? at h ⊢
  cases hg : Tryd.prog.globalNamed nm with
  | none => rw [hg] at h; simp at h
  | some g =>
    rw [hg] at h
    simp only [Option.bind_some] at h ⊢
    have hlt : g < w.heap.size := by
      by_cases e : g < w.heap.size
      · exact e
      · rw [Array.getElem?_eq_none (by omega)] at h; simp at h
    rw [hb.block g hlt]
    exact h
theorem pow_keep {w w' : World} (h : Lib.TabIs Tryd.prog w powName .u64 Lib.pow10Tab) (hb : Below w.heap.size w w') : Lib.TabIs Tryd.prog w' powName .u64 Lib.pow10Tab := var_keep h hb
structure EnvS (w : World) : Prop where
  pow : Lib.TabIs Tryd.prog w powName .u64 Lib.pow10Tab
theorem EnvS.keep {w w' : World} (h : EnvS w) (hb : Below w.heap.size w w') : EnvS w' := by
  exact ⟨pow_keep h.pow hb⟩
theorem EnvS.drewN {w : World} (h : EnvS w) (n : Nat) : EnvS (w.drewN n) := by
  exact ⟨h.pow⟩
theorem evS : Ev EnvS := ⟨fun h hb => h.keep hb, fun n h => h.drewN n⟩
end Go.Proofs.YtdehldcgakdobaaDoor.Sc
