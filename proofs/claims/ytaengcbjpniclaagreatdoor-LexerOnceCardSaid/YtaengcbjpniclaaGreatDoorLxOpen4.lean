/- Tokens among the arguments. -/
import Derived.Test.YtaengcbjpniclaaGreatDoorLxOpen8
import Derived.Test.YtaengcbjpniclaaGreatDoorLxRow
import Derived.Lib.SmallJoins
namespace Go.Proofs.YtaengcbjpniclaaGreatDoor.Lx
open Go.RowKit Go.WideShapes Go.ChangeShapes Go.Joins Go.Lib Go.Proofs.YtaengcbjpniclaaGreatDoor.Bas Go.Proofs.YtaengcbjpniclaaGreatDoor.Cal
set_option linter.unusedVariables false

theorem cells_token : Tryz.prog.cellsOf 25 = 4 := by kernel_rfl
/-- A token's fields are within their types. -/
def TkWf (t : Tk) : Prop := ((Lit.int .i64 t.k).wf = true ∧ (Lit.int .i64 t.n).wf = true ∧ (Lit.int .i64 t.p).wf = true) ∧ t.t.length ≤ 9223372036854775807
theorem tx_of (s : ByteArray) : ∃ l : List UInt8, s = tx l ∧ l.length = s.size := ⟨bl s, (tx_bl s).symm, bl_size s⟩
set_option maxRecDepth 20000 in
theorem opened_token1 {H : Type} {enc : TypeId × Value → H} {W : World} {r : Reach} {b0 : Nat} {v : Value} {d : DataW H} {p : List MemPlace} (hv : Value.okWide Tryz.prog W r b0 25 v)
    (h0 : DataW.Trod enc Tryz.prog W 0 (fun _ => true) true 25 v d p) :
    ∃ a : Tk, v = .agg #[.int .i64 a.k, .string (tx a.t), .int .i64 a.n, .int .i64 a.p] ∧ TkWf a := by
  obtain ⟨c0, c1, c2, c3, y0, y1, y2, y3, n, rfl, _, _, t0, t1, t2, t3⟩ := open_agg4 Tryz.underlying25 (by kernel_rfl) cells_token hv h0
  obtain ⟨k0, e0, _, w0⟩ := DataW.trod_int Tryz.underlying3 t0
  obtain ⟨s1, e1, _, w1⟩ := DataW.trod_string Tryz.underlying9 t1
  obtain ⟨k2, e2, _, w2⟩ := DataW.trod_int Tryz.underlying3 t2
  obtain ⟨k3, e3, _, w3⟩ := DataW.trod_int Tryz.underlying3 t3
  simp at e0 e1 e2 e3
  subst e0; subst e1; subst e2; subst e3
  obtain ⟨l, rfl, hl⟩ := tx_of s1
  exact ⟨⟨k0, l, k2, k3⟩, rfl, ⟨w0, w2, w3⟩, by rw [hl]; unfold maxLen at w1; omega⟩
set_option maxRecDepth 20000 in
theorem opened_tokens {H : Type} {enc : TypeId × Value → H} {W : World} {e : Option Addr} {len cap : Nat} {d : DataW H} {p : List MemPlace}
    (h0 : DataW.Trod enc Tryz.prog W 0 (fun _ => true) true 22 (.slice e len cap) d p) :
    ∃ l : List Tk, TksAt W (.slice e len cap) l ∧ l.length ≤ 9223372036854775807 ∧ (∀ x ∈ l, TkWf x) := by
  obtain ⟨fuel, hf⟩ := h0
  rcases Go.Deep.open_slice Tryz.underlying22 hf with ⟨hcs, hx⟩ | ⟨a, len', cap', m, n, D, Pl, hcs, _, hl, hm, hmm, hx, hel⟩
  · simp [Value.cells] at hcs
    obtain ⟨rfl, rfl, rfl⟩ := hcs
    exact ⟨[], tksAt_nil W, by simp, by simp⟩
  · simp [Value.cells] at hcs
    obtain ⟨rfl, rfl, rfl⟩ := hcs
    simp only [if_true] at hmm

    have each : ∀ i, i < len → ∃ q : Tk, (W.cell? (a.add (i * 4)) = some (.int .i64 q.k) ∧ W.cell? (a.add (i * 4 + 1)) = some (.string (tx q.t)) ∧ W.cell? (a.add (i * 4 + 2)) = some (.int .i64 q.n) ∧ W.cell? (a.add (i * 4 + 3)) = some (.int .i64 q.p)) ∧ TkWf q := by
      intro i hi
      obtain ⟨cs', h1, h2⟩ := hel i (by omega)
      rw [cells_token] at h1
      obtain ⟨_, hlen, hcell⟩ := World.cells?_some h1
      obtain ⟨y0, y1, y2, y3, k, _, _, t0, t1, t2, t3⟩ := trod_struct4 Tryz.underlying25 h2
      obtain ⟨v0, v1, v2, v3, hcs4⟩ := array4 (cs := cs'.toArray) (by simpa using hlen)
      have hcs5 : cs' = [v0, v1, v2, v3] := by simpa using congrArg Array.toList hcs4
      subst hcs5
      obtain ⟨k0, e0, _, w0⟩ := DataW.trod_int Tryz.underlying3 t0
      obtain ⟨s1, e1, _, w1⟩ := DataW.trod_string Tryz.underlying9 t1
      obtain ⟨k2, e2, _, w2⟩ := DataW.trod_int Tryz.underlying3 t2
      obtain ⟨k3, e3, _, w3⟩ := DataW.trod_int Tryz.underlying3 t3
      obtain ⟨l, rfl, hll⟩ := tx_of s1
      have g0 := hcell 0 (by omega)
      have g1 := hcell 1 (by omega)
      have g2 := hcell 2 (by omega)
      have g3 := hcell 3 (by omega)
      rw [Go.Deep.add_add] at g0 g1 g2 g3
      have c1 : Tryz.prog.cellsOf 3 = 1 := by kernel_rfl
      have c2 : Tryz.prog.cellsOf 9 = 1 := by kernel_rfl
      simp [c1, c2] at e0 e1 e2 e3
      subst e0; subst e1; subst e2; subst e3
      exact ⟨⟨k0, l, k2, k3⟩, ⟨by simpa using g0, by simpa using g1, by simpa using g2, by simpa using g3⟩, ⟨w0, w2, w3⟩, by rw [hll]; unfold maxLen at w1; omega⟩
    have : Inhabited Tk := ⟨z0⟩
    obtain ⟨q, hq⟩ := Go.Deep.choose_lt each
    have hqt : ∀ j, j < len → tk ((List.range len).map q) j = q j := fun j hj => by
      rw [tk_at _ j (by simpa using hj)]; simp
    refine ⟨(List.range len).map q, ⟨some a, cap, by simp, ⟨by simpa using hl, fun e => by cases e⟩, fun hpos => ?_⟩, by simp; unfold maxLen at hm; omega, fun x hx => ?_⟩
    · have hpos' : 0 < len := by simpa using hpos
      obtain ⟨b, off, sp⟩ := a
      have hspot : sp = none := by simpa [Addr.add] using World.cell?_spot (hq 0 hpos').1.1
      subst hspot
      refine ⟨b, off, rfl, fun j hj => ?_⟩
      have hj' : j < len := by simpa using hj
      have := (hq j hj').1
      rw [hqt j hj']
      simpa [Go.WideShapes.add_plain, Nat.add_assoc] using this
    · obtain ⟨i, hi, rfl⟩ := List.mem_map.1 hx
      exact (hq i (by simpa using hi)).2
end Go.Proofs.YtaengcbjpniclaaGreatDoor.Lx
