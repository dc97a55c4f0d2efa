/- One rate, one amount among the arguments. -/
import Derived.Test.YtcdfedkcefhdiaaExcOpen
namespace Go.Proofs.Ytcdfedkcefhdiaa.Exc
open Go.RowKit Go.WideShapes Go.ChangeShapes Go.Joins
set_option linter.unusedVariables false
theorem cells_rate1 : Try.prog.cellsOf 35 = 3 := by kernel_rfl
theorem cells_cash1 : Try.prog.cellsOf 40 = 2 := by kernel_rfl
theorem opened_rate1 {H : Type} {enc : TypeId × Value → H} {W : World} {r : Reach} {b0 : Nat} {v : Value} {d : DataW H} {p : List MemPlace} (hv : Value.okWide Try.prog W r b0 35 v)
    (h0 : DataW.Trod enc Try.prog W 0 (fun _ => true) true 35 v d p) :
    ∃ a b c : Int, v = .agg #[.int .i64 a, .int .i64 b, .int .i64 c] ∧ (Lit.int .i64 a).wf = true ∧ (Lit.int .i64 b).wf = true ∧ (Lit.int .i64 c).wf = true := by
  obtain ⟨c0, c1, c2, y0, y1, y2, n, rfl, _, _, t0, t1, t2⟩ := open_agg3 Try.underlying35 (by kernel_rfl) cells_rate1 hv h0
  obtain ⟨k0, e0, _, w0⟩ := DataW.trod_int Try.underlying3 t0
  obtain ⟨k1, e1, _, w1⟩ := DataW.trod_int Try.underlying3 t1
  obtain ⟨k2, e2, _, w2⟩ := DataW.trod_int Try.underlying3 t2
  simp at e0 e1 e2
  subst e0; subst e1; subst e2
  exact ⟨k0, k1, k2, rfl, w0, w1, w2⟩
theorem opened_cash1 {H : Type} {enc : TypeId × Value → H} {W : World} {r : Reach} {b0 : Nat} {v : Value} {d : DataW H} {p : List MemPlace} (hv : Value.okWide Try.prog W r b0 40 v)
    (h0 : DataW.Trod enc Try.prog W 0 (fun _ => true) true 40 v d p) :
    ∃ a b : Int, v = .agg #[.int .i64 a, .int .i64 b] ∧ (Lit.int .i64 a).wf = true ∧ (Lit.int .i64 b).wf = true := by
  obtain ⟨c0, c1, y0, y1, n, rfl, _, _, t0, t1⟩ := open_agg2 Try.underlying40 (by kernel_rfl) cells_cash1 hv h0
  obtain ⟨k0, e0, _, w0⟩ := DataW.trod_int Try.underlying3 t0
  obtain ⟨k1, e1, _, w1⟩ := DataW.trod_int Try.underlying3 t1
  simp at e0 e1
  subst e0; subst e1
  exact ⟨k0, k1, rfl, w0, w1⟩
end Go.Proofs.Ytcdfedkcefhdiaa.Exc
