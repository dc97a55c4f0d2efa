/- treatymade.Within. -/
import Derived.Test.YtdehldcgakdobaaGreatDoorBase
import Derived.StillTailTactics
namespace Go.Proofs.YtdehldcgakdobaaGreatDoor.Sc
open Go.RowKit Go.Lib Go.Proofs.YtdehldcgakdobaaGreatDoor.Bas
set_option linter.unusedVariables false

def wi (x n : Int) : Int := (x.tmod n + n) % n
theorem wi_bd (x n : Int) (h : 0 < n) : 0 ≤ wi x n ∧ wi x n < n := ⟨Int.emod_nonneg _ (by omega), Int.emod_lt_of_pos _ h⟩
theorem within_any (x n : Int) (w : World) (x1 : -9223372036854775808 ≤ x) (x2 : x ≤ 9223372036854775807) (hn : 0 < n) (hn2 : n ≤ 17592186044416) :
    Calls Tryz.prog 14 #[.int .i64 x, .int .i64 n] w fun e w' => e = .returned (.int .i64 (wi x n)) ∧ w = w' := by
  have t3 : (n == 0) = false := by simp; omega
  have hb1 := Int.lt_tmod_of_pos x hn
  have hb2 := Int.tmod_lt_of_pos x hn
  go_enter Tryz.func14, Tryz.ntmps14
  go_wp2
  go_ret
  exact ⟨rfl, rfl⟩
end Go.Proofs.YtdehldcgakdobaaGreatDoor.Sc
