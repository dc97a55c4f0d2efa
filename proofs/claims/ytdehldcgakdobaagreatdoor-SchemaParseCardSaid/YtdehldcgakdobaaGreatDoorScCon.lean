/- What the walks of the statements take of the program. -/
import Derived.Test.YtdehldcgakdobaaGreatDoorScFmt
import Derived.Test.YtdehldcgakdobaaGreatDoorScOpen
namespace Go.Proofs.YtdehldcgakdobaaGreatDoor.Sc
open Go.RowKit Go.Lib Go.Proofs.YtdehldcgakdobaaGreatDoor.Bas Go.Proofs.YtdehldcgakdobaaGreatDoor.Cal Go.Proofs.YtdehldcgakdobaaGreatDoor.Lx
set_option linter.unusedVariables false

/-- What the program's functions find in memory; it is kept. -/
structure Ev (E : World → Prop) : Prop where
  keep : ∀ {w w' : World}, E w → Below w.heap.size w w' → E w'
  drewN : ∀ {w : World} (n : Nat), E w → E (w.drewN n)
def FmtOf (E : World → Prop) (fn : FuncId) : Prop := ∀ (u : Value) (w : World) (L : List At) (vf : Value) (f : List Int), E w → AttsAt w u L → L.length ≤ 9223372036854775807 → (∀ a ∈ L, AtWf a) → IntsAt w vf f → f.length ≤ 9223372036854775807 → Calls Tryz.prog fn #[.agg #[u], vf] w (TextBe (fmtF L f) w)
def AwakeOf (E : World → Prop) (fn : FuncId) : Prop := ∀ w, E w → Calls Tryz.prog fn #[] w (BoolBe true w)

end Go.Proofs.YtdehldcgakdobaaGreatDoor.Sc
