/- What the walks of stage 4's statements ask of the program's functions; awake's form. -/
import Derived.Test.YtcdfedkcefhdiaaExcNorm
namespace Go.Proofs.Ytcdfedkcefhdiaa.Exc
open Go.RowKit Go.Lib Go.Proofs.Ytcdfedkcefhdiaa.Bas Go.Proofs.Ytcdfedkcefhdiaa.Spl
set_option linter.unusedVariables false
/-- A bool; nothing of before has changed. -/
def BoolBe (b : Bool) (w : World) (e : Ending) (w' : World) : Prop := e = .returned (.bool b) ∧ Below w.heap.size w w'
/-- The function f is Normalize. -/
def NormOf (f : Nat) : Prop := ∀ (v : Value) (l : List Cs) (w : World), CashAt w v l → l.length ≤ 9223372036854775807 → Calls Try.prog f #[v] w (CsOut (normV l).1 (normV l).2 w)
def AwakeOf (f : Nat) : Prop := ∀ w : World, Calls Try.prog f #[] w (BoolBe true w)
theorem normV_length (l : List Cs) : (normV l).1.length ≤ 16 := by
  unfold normV
  split
  · simp
  · split
    · simp
    · split
      · exact balK_length l 16
      · simp
theorem below_dr2 {B : Nat} {a w : World} (h : Below B a w) (n : Nat) : Below B a (w.drewN n) := below_drewN h n
end Go.Proofs.Ytcdfedkcefhdiaa.Exc
