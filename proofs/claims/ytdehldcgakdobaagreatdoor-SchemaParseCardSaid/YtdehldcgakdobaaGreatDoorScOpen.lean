/- Schemas in memory, and among the arguments. -/
import Derived.Test.YtdehldcgakdobaaGreatDoorScMath
import Derived.Test.YtdehldcgakdobaaGreatDoorLxOpen8
import Derived.Lib.SmallJoins
namespace Go.Proofs.YtdehldcgakdobaaGreatDoor.Sc
open Go.RowKit Go.WideShapes Go.ChangeShapes Go.Joins Go.Lib Go.Proofs.YtdehldcgakdobaaGreatDoor.Bas Go.Proofs.YtdehldcgakdobaaGreatDoor.Cal Go.Proofs.YtdehldcgakdobaaGreatDoor.Lx
set_option linter.unusedVariables false

/-- The value reads as these strings, in this world. -/
def StrsAt (w : World) (v : Value) (l : List (List UInt8)) : Prop :=
  ∃ p c, v = .slice p l.length c ∧ (l.length ≤ c ∧ (p = none → c = 0)) ∧ (0 < l.length → ∃ b off, p = some ⟨b, off, none⟩ ∧ ∀ j, j < l.length → w.cell? ⟨b, off + j, none⟩ = some (.string (tx (l.getD j []))))
theorem StrsAt.below {w w' : World} {v : Value} {l : List (List UInt8)} (h : StrsAt w v l) (hb : Below w.heap.size w w') : StrsAt w' v l := by
  obtain ⟨p, c, rfl, hc, hp⟩ := h
  refine ⟨p, c, rfl, hc, fun h0 => ?_⟩
  obtain ⟨b, off, rfl, hh⟩ := hp h0
  have hlt : b < w.heap.size := World.block_lt_of_cell? _ _ (hh 0 h0)
  exact ⟨b, off, rfl, fun j hj => by rw [hb.cell (p := ⟨b, off + j, none⟩) hlt]; exact hh j hj⟩
theorem strsAt_nil (w : World) : StrsAt w (.slice none 0 0) [] := ⟨none, 0, rfl, ⟨Nat.le_refl _, fun _ => rfl⟩, fun h => by simp at h⟩
/-- The value reads as these attributes, in this world. -/
def AttsAt (w : World) (v : Value) (L : List At) : Prop :=
  ∃ p c, v = .slice p L.length c ∧ (L.length ≤ c ∧ (p = none → c = 0)) ∧ (0 < L.length → ∃ b off, p = some ⟨b, off, none⟩ ∧ ∀ j, j < L.length →
    w.cell? ⟨b, off + j * 5, none⟩ = some (.string (tx (at' L j).nm)) ∧ w.cell? ⟨b, off + j * 5 + 1, none⟩ = some (.int .i64 (at' L j).k) ∧ (∃ u, w.cell? ⟨b, off + j * 5 + 2, none⟩ = some u ∧ StrsAt w u (at' L j).ws) ∧ w.cell? ⟨b, off + j * 5 + 3, none⟩ = some (.int .i64 (at' L j).lo) ∧ w.cell? ⟨b, off + j * 5 + 4, none⟩ = some (.int .i64 (at' L j).hi))
theorem AttsAt.below {w w' : World} {v : Value} {L : List At} (h : AttsAt w v L) (hb : Below w.heap.size w w') : AttsAt w' v L := by
  obtain ⟨p, c, rfl, hc, hp⟩ := h
  refine ⟨p, c, rfl, hc, fun h0 => ?_⟩
  obtain ⟨b, off, rfl, hh⟩ := hp h0
  have hlt : b < w.heap.size := World.block_lt_of_cell? _ _ (hh 0 h0).1
  refine ⟨b, off, rfl, fun j hj => ?_⟩
  obtain ⟨h1, h2, ⟨u, h3, h4⟩, h5, h6⟩ := hh j hj
  refine ⟨?_, ?_, ⟨u, ?_, h4.below hb⟩, ?_, ?_⟩
  · rw [hb.cell (p := ⟨b, off + j * 5, none⟩) hlt]; exact h1
  · rw [hb.cell (p := ⟨b, off + j * 5 + 1, none⟩) hlt]; exact h2
  · rw [hb.cell (p := ⟨b, off + j * 5 + 2, none⟩) hlt]; exact h3
  · rw [hb.cell (p := ⟨b, off + j * 5 + 3, none⟩) hlt]; exact h5
  · rw [hb.cell (p := ⟨b, off + j * 5 + 4, none⟩) hlt]; exact h6
theorem attsAt_nil (w : World) : AttsAt w (.slice none 0 0) [] := ⟨none, 0, rfl, ⟨Nat.le_refl _, fun _ => rfl⟩, fun h => by simp at h⟩
/-- An attribute's parts are within their types. -/
def WsWf (l : List (List UInt8)) : Prop := l.length ≤ 9223372036854775807 ∧ ∀ x ∈ l, x.length ≤ 9223372036854775807
def AtWf (a : At) : Prop := (a.nm.length ≤ 9223372036854775807 ∧ WsWf a.ws) ∧ (Lit.int .i64 a.k).wf = true ∧ (Lit.int .i64 a.lo).wf = true ∧ (Lit.int .i64 a.hi).wf = true
theorem tx_of2 (s : ByteArray) : ∃ l : List UInt8, s = tx l ∧ l.length = s.size := ⟨bl s, (tx_bl s).symm, bl_size s⟩
theorem cells_str : Tryz.prog.cellsOf 9 = 1 := by kernel_rfl
theorem cells_i : Tryz.prog.cellsOf 3 = 1 := by kernel_rfl
theorem cells_ws : Tryz.prog.cellsOf 41 = 1 := by kernel_rfl
theorem cells_at : Tryz.prog.cellsOf 43 = 5 := by kernel_rfl
theorem cells_sc : Tryz.prog.cellsOf 25 = 1 := by kernel_rfl
theorem cells_ats : Tryz.prog.cellsOf 23 = 1 := by kernel_rfl
/-- An address of which a cell is there. -/
theorem plain_of {w : World} {a : Addr} {v : Value} (h : w.cell? (a.add 0) = some v) : ∃ b off, a = ⟨b, off, none⟩ := by
  obtain ⟨b, off, sp⟩ := a
  have hspot : sp = none := by simpa [Addr.add] using World.cell?_spot h
  subst hspot
  exact ⟨b, off, rfl⟩
theorem opened_strs {H : Type} {enc : TypeId × Value → H} {W : World} {fuel : Nat} {u : Value} {y : DataW H × List MemPlace}
    (hf : DataW.trod enc Tryz.prog W 0 (fun _ => true) true fuel 41 [u] = some y) : ∃ l, StrsAt W u l ∧ WsWf l := by
  rcases Go.Deep.open_slice1 Tryz.underlying41 cells_str hf with ⟨hcs, hx⟩ | ⟨a, len, cap, m, n, V, D, Pl, hcs, _, hl, hm, hmm, hx, hel⟩
  · simp at hcs
    subst hcs
    exact ⟨[], strsAt_nil W, by simp [WsWf]⟩
  · simp at hcs
    subst hcs
    simp only [if_true] at hmm
    have each : ∀ i, i < len → ∃ q : List UInt8, W.cell? (a.add i) = some (.string (tx q)) ∧ q.length ≤ 9223372036854775807 := by
      intro i hi
      obtain ⟨h1, h2⟩ := hel i (by omega)
      obtain ⟨s1, e1, _, w1⟩ := DataW.trod_string Tryz.underlying9 h2
      simp at e1
      obtain ⟨l, rfl, hll⟩ := tx_of2 s1
      rw [e1] at h1
      exact ⟨l, h1, by rw [hll]; unfold maxLen at w1; omega⟩
    obtain ⟨q, hq⟩ := Go.Deep.choose_lt each
    have hqt : ∀ j, j < len → ((List.range len).map q).getD j [] = q j := fun j hj => by simp [List.getD_eq_getElem?_getD, hj]
    refine ⟨(List.range len).map q, ⟨some a, cap, by simp, ⟨by simpa using hl, fun e => by cases e⟩, fun hpos => ?_⟩, by simp; unfold maxLen at hm; omega, fun x hx => ?_⟩
    · have hpos' : 0 < len := by simpa using hpos
      obtain ⟨b, off, rfl⟩ := plain_of (hq 0 hpos').1
      refine ⟨b, off, rfl, fun j hj => ?_⟩
      have hj' : j < len := by simpa using hj
      rw [hqt j hj']
      simpa [Go.WideShapes.add_plain] using (hq j hj').1
    · obtain ⟨i, hi, rfl⟩ := List.mem_map.1 hx
      exact (hq i (by simpa using hi)).2
theorem array5 {α : Type} {cs : Array α} (h : cs.size = 5) : ∃ c0 c1 c2 c3 c4, cs = #[c0, c1, c2, c3, c4] := by
  obtain ⟨l⟩ := cs
  match l, h with
  | [c0, c1, c2, c3, c4], _ => exact ⟨c0, c1, c2, c3, c4, rfl⟩
section
variable {H : Type} {enc : TypeId × Value → H} {P : Program} {w : World} {base : Nat} {spare : Nat → Bool} {held : Bool}
theorem trod_struct5 {t : TypeId} {f0 f1 f2 f3 f4 : Field} {fuel : Nat} {cs : List Value} {x : DataW H × List MemPlace} (ht : P.underlying t = some (.struct #[f0, f1, f2, f3, f4])) (h : DataW.trod enc P w base spare held fuel t cs = some x) :
    ∃ y0 y1 y2 y3 y4 n, cs.length = P.cellsOf t ∧ DataW.trod enc P w base spare held n f0.type ((cs.drop f0.offset).take (P.cellsOf f0.type)) = some y0 ∧
      DataW.trod enc P w base spare held n f1.type ((cs.drop f1.offset).take (P.cellsOf f1.type)) = some y1 ∧ DataW.trod enc P w base spare held n f2.type ((cs.drop f2.offset).take (P.cellsOf f2.type)) = some y2 ∧
      DataW.trod enc P w base spare held n f3.type ((cs.drop f3.offset).take (P.cellsOf f3.type)) = some y3 ∧ DataW.trod enc P w base spare held n f4.type ((cs.drop f4.offset).take (P.cellsOf f4.type)) = some y4 := by
  obtain ⟨xs, n, _, rfl, hl, hlen, hf⟩ := DataW.trod_struct ht h
  match xs, hlen with
  | [y0, y1, y2, y3, y4], _ => exact ⟨y0, y1, y2, y3, y4, n, hl, by simpa using hf 0 f0 rfl, by simpa using hf 1 f1 rfl, by simpa using hf 2 f2 rfl, by simpa using hf 3 f3 rfl, by simpa using hf 4 f4 rfl⟩
end
instance : Inhabited At := ⟨a0⟩
set_option maxRecDepth 20000 in
theorem opened_atts {H : Type} {enc : TypeId × Value → H} {W : World} {fuel : Nat} {u : Value} {y : DataW H × List MemPlace}
    (hf : DataW.trod enc Tryz.prog W 0 (fun _ => true) true fuel 23 [u] = some y) : ∃ L, AttsAt W u L ∧ L.length ≤ 9223372036854775807 ∧ ∀ a ∈ L, AtWf a := by
  rcases Go.Deep.open_slice Tryz.underlying23 hf with ⟨hcs, hx⟩ | ⟨a, len, cap, m, n, D, Pl, hcs, _, hl, hm, hmm, hx, hel⟩
  · simp at hcs
    subst hcs
    exact ⟨[], attsAt_nil W, by simp, by simp⟩
  · simp at hcs
    subst hcs
    simp only [if_true] at hmm
    have each : ∀ i, i < len → ∃ q : At, (W.cell? (a.add (i * 5)) = some (.string (tx q.nm)) ∧ W.cell? (a.add (i * 5 + 1)) = some (.int .i64 q.k) ∧ (∃ u, W.cell? (a.add (i * 5 + 2)) = some u ∧ StrsAt W u q.ws) ∧ W.cell? (a.add (i * 5 + 3)) = some (.int .i64 q.lo) ∧ W.cell? (a.add (i * 5 + 4)) = some (.int .i64 q.hi)) ∧ AtWf q := by
      intro i hi
      obtain ⟨cs', h1, h2⟩ := hel i (by omega)
      rw [cells_at] at h1
      obtain ⟨_, hlen, hcell⟩ := World.cells?_some h1
      obtain ⟨y0, y1, y2, y3, y4, k, _, t0, t1, t2, t3, t4⟩ := trod_struct5 Tryz.underlying43 h2
      obtain ⟨v0, v1, v2, v3, v4, hcs4⟩ := array5 (cs := cs'.toArray) (by simpa using hlen)
      have hcs5 : cs' = [v0, v1, v2, v3, v4] := by simpa using congrArg Array.toList hcs4
      subst hcs5
      simp [cells_str, cells_i, cells_ws] at t0 t1 t2 t3 t4
      obtain ⟨s0, e0, _, w0⟩ := DataW.trod_string Tryz.underlying9 t0
      obtain ⟨k1, e1, _, w1⟩ := DataW.trod_int Tryz.underlying3 t1
      obtain ⟨ws, g, hws⟩ := opened_strs t2
      obtain ⟨k3, e3, _, w3⟩ := DataW.trod_int Tryz.underlying3 t3
      obtain ⟨k4, e4, _, w4⟩ := DataW.trod_int Tryz.underlying3 t4
      obtain ⟨l, rfl, hll⟩ := tx_of2 s0
      have g0 := hcell 0 (by omega)
      have g1 := hcell 1 (by omega)
      have g2 := hcell 2 (by omega)
      have g3 := hcell 3 (by omega)
      have g4 := hcell 4 (by omega)
      rw [Go.Deep.add_add] at g0 g1 g2 g3 g4
      simp at e0 e1 e3 e4
      subst e0; subst e1; subst e3; subst e4
      exact ⟨⟨l, k1, ws, k3, k4⟩, ⟨by simpa using g0, by simpa using g1, ⟨v2, by simpa using g2, g⟩, by simpa using g3, by simpa using g4⟩, ⟨by rw [hll]; unfold maxLen at w0; omega, hws⟩, w1, w3, w4⟩
    obtain ⟨q, hq⟩ := Go.Deep.choose_lt each
    have hqt : ∀ j, j < len → at' ((List.range len).map q) j = q j := fun j hj => by
      rw [at_at _ j (by simpa using hj)]; simp
    refine ⟨(List.range len).map q, ⟨some a, cap, by simp, ⟨by simpa using hl, fun e => by cases e⟩, fun hpos => ?_⟩, by simp; unfold maxLen at hm; omega, fun x hx => ?_⟩
    · have hpos' : 0 < len := by simpa using hpos
      obtain ⟨b, off, rfl⟩ := plain_of (by simpa using (hq 0 hpos').1.1)
      refine ⟨b, off, rfl, fun j hj => ?_⟩
      have hj' : j < len := by simpa using hj
      have := (hq j hj').1
      rw [hqt j hj']
      simpa [Go.WideShapes.add_plain, Nat.add_assoc] using this
    · obtain ⟨i, hi, rfl⟩ := List.mem_map.1 hx
      exact (hq i (by simpa using hi)).2
set_option maxRecDepth 20000 in
theorem opened_schema {H : Type} {enc : TypeId × Value → H} {W : World} {r : Reach} {b0 : Nat} {v : Value} {d : DataW H} {p : List MemPlace} (hv : Value.okWide Tryz.prog W r b0 25 v)
    (h0 : DataW.Trod enc Tryz.prog W 0 (fun _ => true) true 25 v d p) : ∃ u, v = .agg #[u] ∧ ∃ L, AttsAt W u L ∧ L.length ≤ 9223372036854775807 ∧ ∀ a ∈ L, AtWf a := by
  obtain ⟨cs, rfl, hsz⟩ := okWide_struct Tryz.underlying25 hv
  rw [cells_sc] at hsz
  obtain ⟨u, rfl⟩ : ∃ u, cs = #[u] := by
    obtain ⟨l⟩ := cs
    match l, hsz with
    | [u], _ => exact ⟨u, rfl⟩
  obtain ⟨fuel, hf⟩ := h0
  obtain ⟨xs, n, _, _, hl, hlen, hff⟩ := DataW.trod_struct Tryz.underlying25 hf
  have h1 := hff 0 _ rfl
  simp [Value.cells, cells_ats] at h1
  match xs, hlen with
  | [y0], _ =>
    simp at h1
    exact ⟨u, rfl, opened_atts h1⟩

set_option maxRecDepth 20000 in
theorem opened_attr {H : Type} {enc : TypeId × Value → H} {W : World} {r : Reach} {b0 : Nat} {v : Value} {d : DataW H} {p : List MemPlace} (hv : Value.okWide Tryz.prog W r b0 43 v)
    (h0 : DataW.Trod enc Tryz.prog W 0 (fun _ => true) true 43 v d p) : ∃ (a : At) (u : Value), v = .agg #[.string (tx a.nm), .int .i64 a.k, u, .int .i64 a.lo, .int .i64 a.hi] ∧ StrsAt W u a.ws ∧ AtWf a := by
  obtain ⟨cs, rfl, hsz⟩ := okWide_struct Tryz.underlying43 hv
  rw [cells_at] at hsz
  obtain ⟨v0, v1, v2, v3, v4, rfl⟩ := array5 hsz
  obtain ⟨fuel, hf⟩ := h0
  obtain ⟨y0, y1, y2, y3, y4, k, _, t0, t1, t2, t3, t4⟩ := trod_struct5 Tryz.underlying43 hf
  simp [Value.cells, cells_str, cells_i, cells_ws] at t0 t1 t2 t3 t4
  obtain ⟨s0, e0, _, w0⟩ := DataW.trod_string Tryz.underlying9 t0
  obtain ⟨k1, e1, _, w1⟩ := DataW.trod_int Tryz.underlying3 t1
  obtain ⟨ws, g, hws⟩ := opened_strs t2
  obtain ⟨k3, e3, _, w3⟩ := DataW.trod_int Tryz.underlying3 t3
  obtain ⟨k4, e4, _, w4⟩ := DataW.trod_int Tryz.underlying3 t4
  obtain ⟨l, rfl, hll⟩ := tx_of2 s0
  simp at e0 e1 e3 e4
  subst e0; subst e1; subst e3; subst e4
  exact ⟨⟨l, k1, ws, k3, k4⟩, v2, rfl, g, ⟨by rw [hll]; unfold maxLen at w0; omega, hws⟩, w1, w3, w4⟩
end Go.Proofs.YtdehldcgakdobaaGreatDoor.Sc
