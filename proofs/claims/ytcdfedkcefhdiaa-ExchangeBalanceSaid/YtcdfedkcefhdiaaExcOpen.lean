/- Rates and amounts of money among the arguments. -/
import Derived.Test.YtcdfedkcefhdiaaIntsB
import Derived.Test.YtcdfedkcefhdiaaExcMath
import Derived.Lib.SmallJoins
import Derived.Deep.Slices
import Derived.Deep.Strs
namespace Go.Proofs.Ytcdfedkcefhdiaa.Exc
open Go.RowKit Go.WideShapes Go.ChangeShapes Go.Joins Go.Deep Go.Proofs.Ytcdfedkcefhdiaa.Bas
set_option linter.unusedVariables false

/-- The value reads as the table l, in this world. -/
def RatesAt (w : World) (v : Value) (l : List Rt) : Prop :=
  ∃ p c, v = .slice p l.length c ∧ (l.length ≤ c ∧ (p = none → c = 0)) ∧ (0 < l.length → ∃ b off, p = some ⟨b, off, none⟩ ∧ ∀ j, j < l.length → w.cell? ⟨b, off + j * 3, none⟩ = some (.int .i64 (rt l j).c) ∧ w.cell? ⟨b, off + j * 3 + 1, none⟩ = some (.int .i64 (rt l j).f) ∧ w.cell? ⟨b, off + j * 3 + 2, none⟩ = some (.int .i64 (rt l j).p))
/-- .. as the amounts l. -/
def CashAt (w : World) (v : Value) (l : List Cs) : Prop :=
  ∃ p c, v = .slice p l.length c ∧ (l.length ≤ c ∧ (p = none → c = 0)) ∧ (0 < l.length → ∃ b off, p = some ⟨b, off, none⟩ ∧ ∀ j, j < l.length → w.cell? ⟨b, off + j * 2, none⟩ = some (.int .i64 (cs l j).c) ∧ w.cell? ⟨b, off + j * 2 + 1, none⟩ = some (.int .i64 (cs l j).a))
def Rt.wf (x : Rt) : Prop := (Lit.int .i64 x.c).wf = true ∧ (Lit.int .i64 x.f).wf = true ∧ (Lit.int .i64 x.p).wf = true
def Cs.wf (x : Cs) : Prop := (Lit.int .i64 x.c).wf = true ∧ (Lit.int .i64 x.a).wf = true
theorem RatesAt.below {w w' : World} {v : Value} {l : List Rt} (h : RatesAt w v l) (hb : Below w.heap.size w w') : RatesAt w' v l := by
  obtain ⟨p, c, rfl, hc, hp⟩ := h
  refine ⟨p, c, rfl, hc, fun h0 => ?_⟩
  obtain ⟨b, off, rfl, hh⟩ := hp h0
  have hlt : b < w.heap.size := World.block_lt_of_cell? _ _ (hh 0 h0).1
  exact ⟨b, off, rfl, fun j hj => by rw [hb.cell (p := ⟨b, off + j * 3, none⟩) hlt, hb.cell (p := ⟨b, off + j * 3 + 1, none⟩) hlt, hb.cell (p := ⟨b, off + j * 3 + 2, none⟩) hlt]; exact hh j hj⟩
theorem CashAt.below {w w' : World} {v : Value} {l : List Cs} (h : CashAt w v l) (hb : Below w.heap.size w w') : CashAt w' v l := by
  obtain ⟨p, c, rfl, hc, hp⟩ := h
  refine ⟨p, c, rfl, hc, fun h0 => ?_⟩
  obtain ⟨b, off, rfl, hh⟩ := hp h0
  have hlt : b < w.heap.size := World.block_lt_of_cell? _ _ (hh 0 h0).1
  exact ⟨b, off, rfl, fun j hj => by rw [hb.cell (p := ⟨b, off + j * 2, none⟩) hlt, hb.cell (p := ⟨b, off + j * 2 + 1, none⟩) hlt]; exact hh j hj⟩

theorem cells_rate : Try.prog.cellsOf 35 = 3 := by kernel_rfl
theorem cells_cash : Try.prog.cellsOf 40 = 2 := by kernel_rfl
/-- An address with a cell has no slot of its own. -/
theorem addr_none {w : World} {a : Addr} {v : Value} (h : w.cell? (a.add 0) = some v) : ∃ b off, a = ⟨b, off, none⟩ := by
  obtain ⟨b, off, spot⟩ := a
  have hspot : spot = none := by simpa [Addr.add] using World.cell?_spot h
  subst hspot
  exact ⟨b, off, rfl⟩
theorem pick {α : Type} [Inhabited α] {n : Nat} {P : Nat → α → Prop} (h : ∀ i, i < n → ∃ r, P i r) : ∃ l : List α, l.length = n ∧ ∀ i (hi : i < l.length), P i l[i] := by
  induction n with
  | zero => exact ⟨[], rfl, fun i hi => by simp at hi⟩
  | succ n ih =>
    obtain ⟨l, hl, hp⟩ := ih fun i hi => h i (by omega)
    obtain ⟨r, hr⟩ := h n (by omega)
    refine ⟨l ++ [r], by simp [hl], fun i hi => ?_⟩
    by_cases e : i < l.length
    · rw [List.getElem_append_left e]; exact hp i e
    · have e2 : i = n := by simp at hi; omega
      subst e2
      rw [List.getElem_append_right (by omega)]
      simp [hl]
      exact hr
instance : Inhabited Rt := ⟨⟨0, 0, 0⟩⟩
instance : Inhabited Cs := ⟨⟨0, 0⟩⟩
section
variable {H : Type} {enc : TypeId × Value → H} {W : World} {e : Option Addr} {len cap : Nat} {d : DataW H} {p : List MemPlace}
theorem opened_rates (h0 : DataW.Trod enc Try.prog W 0 (fun _ => true) true 22 (.slice e len cap) d p) : ∃ l : List Rt, RatesAt W (.slice e len cap) l ∧ l.length ≤ 9223372036854775807 ∧ ∀ x ∈ l, x.wf := by
  obtain ⟨fuel, hf⟩ := h0
  rcases open_slice Try.underlying22 hf with ⟨hcs, hx⟩ | ⟨a, len', cap', m, n, D, Pl, hcs, _, hl, hm, hmm, hx, hi⟩
  · simp [Value.cells] at hcs
    obtain ⟨rfl, rfl, rfl⟩ := hcs
    exact ⟨[], ⟨none, 0, rfl, ⟨Nat.le_refl _, fun _ => rfl⟩, fun h => by simp at h⟩, by simp, by simp⟩
  · simp [Value.cells] at hcs
    obtain ⟨rfl, rfl, rfl⟩ := hcs
    simp only [if_true] at hmm
    have H1 : ∀ i, i < len → ∃ r : Rt, W.cell? (a.add (i * 3)) = some (.int .i64 r.c) ∧ W.cell? (a.add (i * 3 + 1)) = some (.int .i64 r.f) ∧ W.cell? (a.add (i * 3 + 2)) = some (.int .i64 r.p) ∧ r.wf := by
      intro i hil
      obtain ⟨cs', hc, ht⟩ := hi i (by omega)
      rw [cells_rate] at hc
      obtain ⟨_, hlen, hat⟩ := World.cells?_some hc
      obtain ⟨y0, y1, y2, k, _, _, t0, t1, t2⟩ := trod_struct3 Try.underlying35 ht
      match cs', hlen with
      | [v0, v1, v2], _ =>
        obtain ⟨z0, e0, _, w0⟩ := DataW.trod_int Try.underlying3 t0
        obtain ⟨z1, e1, _, w1⟩ := DataW.trod_int Try.underlying3 t1
        obtain ⟨z2, e2, _, w2⟩ := DataW.trod_int Try.underlying3 t2
        have ci : Try.prog.cellsOf 3 = 1 := by kernel_rfl
        rw [ci] at e0 e1 e2
        simp at e0 e1 e2
        subst e0; subst e1; subst e2
        have g0 := hat 0 (by omega)
        have g1 := hat 1 (by omega)
        have g2 := hat 2 (by omega)
        rw [add_add] at g0 g1 g2
        exact ⟨⟨z0, z1, z2⟩, by simpa using g0, by simpa using g1, by simpa using g2, w0, w1, w2⟩
    obtain ⟨l, hll, hp⟩ := pick H1
    subst hll
    refine ⟨l, ⟨some a, cap, rfl, ⟨hl, fun e => by cases e⟩, fun h => ?_⟩, by unfold maxLen at hm; omega, fun x hx => ?_⟩
    · obtain ⟨b, off, rfl⟩ := addr_none (hp 0 h).1
      refine ⟨b, off, rfl, fun j hj => ?_⟩
      have := hp j hj
      rw [Go.WideShapes.add_plain, Go.WideShapes.add_plain, Go.WideShapes.add_plain] at this
      rw [rt_at l j hj]
      exact ⟨this.1, this.2.1, this.2.2.1⟩
    · obtain ⟨i, hi2, rfl⟩ := List.getElem_of_mem hx
      exact (hp i hi2).2.2.2
theorem opened_cash (h0 : DataW.Trod enc Try.prog W 0 (fun _ => true) true 42 (.slice e len cap) d p) : ∃ l : List Cs, CashAt W (.slice e len cap) l ∧ l.length ≤ 9223372036854775807 ∧ ∀ x ∈ l, x.wf := by
  obtain ⟨fuel, hf⟩ := h0
  rcases open_slice Try.underlying42 hf with ⟨hcs, hx⟩ | ⟨a, len', cap', m, n, D, Pl, hcs, _, hl, hm, hmm, hx, hi⟩
  · simp [Value.cells] at hcs
    obtain ⟨rfl, rfl, rfl⟩ := hcs
    exact ⟨[], ⟨none, 0, rfl, ⟨Nat.le_refl _, fun _ => rfl⟩, fun h => by simp at h⟩, by simp, by simp⟩
  · simp [Value.cells] at hcs
    obtain ⟨rfl, rfl, rfl⟩ := hcs
    simp only [if_true] at hmm
    have H1 : ∀ i, i < len → ∃ r : Cs, W.cell? (a.add (i * 2)) = some (.int .i64 r.c) ∧ W.cell? (a.add (i * 2 + 1)) = some (.int .i64 r.a) ∧ r.wf := by
      intro i hil
      obtain ⟨cs', hc, ht⟩ := hi i (by omega)
      rw [cells_cash] at hc
      obtain ⟨_, hlen, hat⟩ := World.cells?_some hc
      obtain ⟨y0, y1, k, _, _, t0, t1⟩ := trod_struct2 Try.underlying40 ht
      match cs', hlen with
      | [v0, v1], _ =>
        obtain ⟨z0, e0, _, w0⟩ := DataW.trod_int Try.underlying3 t0
        obtain ⟨z1, e1, _, w1⟩ := DataW.trod_int Try.underlying3 t1
        have ci : Try.prog.cellsOf 3 = 1 := by kernel_rfl
        rw [ci] at e0 e1
        simp at e0 e1
        subst e0; subst e1
        have g0 := hat 0 (by omega)
        have g1 := hat 1 (by omega)
        rw [add_add] at g0 g1
        exact ⟨⟨z0, z1⟩, by simpa using g0, by simpa using g1, w0, w1⟩
    obtain ⟨l, hll, hp⟩ := pick H1
    subst hll
    refine ⟨l, ⟨some a, cap, rfl, ⟨hl, fun e => by cases e⟩, fun h => ?_⟩, by unfold maxLen at hm; omega, fun x hx => ?_⟩
    · obtain ⟨b, off, rfl⟩ := addr_none (hp 0 h).1
      refine ⟨b, off, rfl, fun j hj => ?_⟩
      have := hp j hj
      rw [Go.WideShapes.add_plain, Go.WideShapes.add_plain] at this
      rw [cs_at l j hj]
      exact ⟨this.1, this.2.1⟩
    · obtain ⟨i, hi2, rfl⟩ := List.getElem_of_mem hx
      exact (hp i hi2).2.2
end
end Go.Proofs.Ytcdfedkcefhdiaa.Exc
