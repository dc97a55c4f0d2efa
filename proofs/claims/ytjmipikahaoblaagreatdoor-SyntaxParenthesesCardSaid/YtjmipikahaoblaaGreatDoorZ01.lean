/- Schemas in memory, and among the arguments. Numbers that are returned; the cells of an attribute, one cell; small words on memory. Rows of strings of the call's own; what is owned stays. Contracts of the standard library at this translation (laid by the shelf). Marks and amounts; the reference's letters, digits, words, names and marks. The calendar's plain mathematics: days of months, day numbers, -/
import Derived.Test.YtjmipikahaoblaaGreatDoorZ00
import Derived.Lib.SmallJoins
import Derived.Shelf.Strings.Builder1
import Derived.Shelf.Strings.BuilderF
import Derived.Shelf.Strings.BuilderK
import Derived.Shelf.Strconv.Atoi
import Derived.Shelf.Strconv.Itoa0
import Derived.Shelf.Strconv.Itoa1
import Derived.Shelf.LaysM
import Derived.Shelf.Strconv.Itoa2
import Derived.Shelf.Strconv.Itoa3
import Derived.Shelf.Strconv.AtoiErrFast
import Derived.Shelf.Strconv.ParseIntEmpty
import Derived.Shelf.Strconv.AtoiFail
import Derived.Shelf.Strconv.Clone
import Derived.Shelf.Strconv.SyntaxError
import Derived.Shelf.LaysC
import Derived.Shelf.Strconv.ToError
import Derived.Shelf.Strconv.Lower
import Derived.Shelf.Strconv.ParseUint10
import Derived.Shelf.Strconv.ParseUint10Empty
import Derived.Shelf.Strconv.ParseUint10Any
import Derived.Shelf.Strconv.ParseInt10
import Derived.Shelf.Strconv.AtoiLong
import Derived.Shelf.Strconv.AtoiInnerAll
import Derived.Shelf.Strconv.RangeError
import Derived.Shelf.Strconv.ToErrorRange
import Derived.Shelf.Strconv.AtoiAll
import Derived.Shelf.Strconv.ErrVarAll
import Derived.Shelf.Strings.Search1
import Derived.Shelf.Strings.Search2
import Derived.Shelf.Strings.Search3
import Derived.Shelf.Strings.Shaped
import Derived.Shelf.Sort.Plain
import Derived.Shelf.Slices.Turned
import Derived.Shelf.Slices.Equal
import Derived.Shelf.Slices.CompactS
import Derived.Shelf.Slices.Cells
import Derived.Shelf.Slices.In.SortNone
import Derived.Shelf.Slices.Empties2
import Derived.Test.YtjmipikahaoblaaGreatDoorProg
import Derived.Test.YtjmipikahaoblaaGreatDoorRows
namespace Go.Proofs.YtjmipikahaoblaaGreatDoor.Sc
open Go.RowKit Go.WideShapes Go.ChangeShapes Go.Joins Go.Lib Go.Proofs.YtjmipikahaoblaaGreatDoor.Bas Go.Proofs.YtjmipikahaoblaaGreatDoor.Cal Go.Proofs.YtjmipikahaoblaaGreatDoor.Lx
set_option linter.unusedVariables false

/-- The value reads as these strings, in this world. -/
def StrsAt (w : World) (v : Value) (l : List (List UInt8)) : Prop :=
  ∃ p c, v = .slice p l.length c ∧ (l.length ≤ c ∧ (p = none → c = 0)) ∧ (0 < l.length → ∃ b off, p = some ⟨b, off, none⟩ ∧ ∀ j, j < l.length → w.cell? ⟨b, off + j, none⟩ = some (.string (tx (l.getD j []))))
theorem StrsAt.below {w w' : World} {v : Value} {l : List (List UInt8)} (h : StrsAt w v l) (hb : Below w.heap.size w w') : StrsAt w' v l := by
  obtain ⟨p, c, rfl, hc, hp⟩ := h
  refine ⟨p, c, rfl, hc, fun h0 => ?_⟩
  obtain ⟨b, off, rfl, hh⟩ := hp h0
  have hlt : b < w.heap.size := World.block_lt_of_cell? _ _ (hh 0 h0)
  exact ⟨b, off, rfl, fun j hj => by rw [hb.cell (p := ⟨b, off + j, none⟩) hlt]; exact hh j hj⟩
theorem strsAt_nil (w : World) : StrsAt w (.slice none 0 0) [] := ⟨none, 0, rfl, ⟨Nat.le_refl _, fun _ => rfl⟩, fun h => by simp at h⟩
/-- The value reads as these attributes, in this world. -/
def AttsAt (w : World) (v : Value) (L : List At) : Prop :=
  ∃ p c, v = .slice p L.length c ∧ (L.length ≤ c ∧ (p = none → c = 0)) ∧ (0 < L.length → ∃ b off, p = some ⟨b, off, none⟩ ∧ ∀ j, j < L.length →
    w.cell? ⟨b, off + j * 5, none⟩ = some (.string (tx (at' L j).nm)) ∧ w.cell? ⟨b, off + j * 5 + 1, none⟩ = some (.int .i64 (at' L j).k) ∧ (∃ u, w.cell? ⟨b, off + j * 5 + 2, none⟩ = some u ∧ StrsAt w u (at' L j).ws) ∧ w.cell? ⟨b, off + j * 5 + 3, none⟩ = some (.int .i64 (at' L j).lo) ∧ w.cell? ⟨b, off + j * 5 + 4, none⟩ = some (.int .i64 (at' L j).hi))
theorem AttsAt.below {w w' : World} {v : Value} {L : List At} (h : AttsAt w v L) (hb : Below w.heap.size w w') : AttsAt w' v L := by
  obtain ⟨p, c, rfl, hc, hp⟩ := h
  refine ⟨p, c, rfl, hc, fun h0 => ?_⟩
  obtain ⟨b, off, rfl, hh⟩ := hp h0
  have hlt : b < w.heap.size := World.block_lt_of_cell? _ _ (hh 0 h0).1
  refine ⟨b, off, rfl, fun j hj => ?_⟩
  obtain ⟨h1, h2, ⟨u, h3, h4⟩, h5, h6⟩ := hh j hj
  refine ⟨?_, ?_, ⟨u, ?_, h4.below hb⟩, ?_, ?_⟩
  · rw [hb.cell (p := ⟨b, off + j * 5, none⟩) hlt]; exact h1
  · rw [hb.cell (p := ⟨b, off + j * 5 + 1, none⟩) hlt]; exact h2
  · rw [hb.cell (p := ⟨b, off + j * 5 + 2, none⟩) hlt]; exact h3
  · rw [hb.cell (p := ⟨b, off + j * 5 + 3, none⟩) hlt]; exact h5
  · rw [hb.cell (p := ⟨b, off + j * 5 + 4, none⟩) hlt]; exact h6
theorem attsAt_nil (w : World) : AttsAt w (.slice none 0 0) [] := ⟨none, 0, rfl, ⟨Nat.le_refl _, fun _ => rfl⟩, fun h => by simp at h⟩
/-- An attribute's parts are within their types. -/
def WsWf (l : List (List UInt8)) : Prop := l.length ≤ 9223372036854775807 ∧ ∀ x ∈ l, x.length ≤ 9223372036854775807
def AtWf (a : At) : Prop := (a.nm.length ≤ 9223372036854775807 ∧ WsWf a.ws) ∧ (Lit.int .i64 a.k).wf = true ∧ (Lit.int .i64 a.lo).wf = true ∧ (Lit.int .i64 a.hi).wf = true
theorem tx_of2 (s : ByteArray) : ∃ l : List UInt8, s = tx l ∧ l.length = s.size := ⟨bl s, (tx_bl s).symm, bl_size s⟩
theorem cells_str : Tryz.prog.cellsOf 9 = 1 := by kernel_rfl
theorem cells_i : Tryz.prog.cellsOf 3 = 1 := by kernel_rfl
theorem cells_ws : Tryz.prog.cellsOf 22 = 1 := by kernel_rfl
theorem cells_at : Tryz.prog.cellsOf 84 = 5 := by kernel_rfl
theorem cells_sc : Tryz.prog.cellsOf 57 = 1 := by kernel_rfl
theorem cells_ats : Tryz.prog.cellsOf 55 = 1 := by kernel_rfl
/-- An address of which a cell is there. -/
theorem plain_of {w : World} {a : Addr} {v : Value} (h : w.cell? (a.add 0) = some v) : ∃ b off, a = ⟨b, off, none⟩ := by
  obtain ⟨b, off, sp⟩ := a
  have hspot : sp = none := by simpa [Addr.add] using World.cell?_spot h
  subst hspot
  exact ⟨b, off, rfl⟩
theorem opened_strs {H : Type} {enc : TypeId × Value → H} {W : World} {fuel : Nat} {u : Value} {y : DataW H × List MemPlace}
    (hf : DataW.trod enc Tryz.prog W 0 (fun _ => true) true fuel 22 [u] = some y) : ∃ l, StrsAt W u l ∧ WsWf l := by
  rcases Go.Deep.open_slice1 Tryz.underlying22 cells_str hf with ⟨hcs, hx⟩ | ⟨a, len, cap, m, n, V, D, Pl, hcs, _, hl, hm, hmm, hx, hel⟩
  · simp at hcs
    subst hcs
    exact ⟨[], strsAt_nil W, by simp [WsWf]⟩
  · simp at hcs
    subst hcs
    simp only [if_true] at hmm
    have each : ∀ i, i < len → ∃ q : List UInt8, W.cell? (a.add i) = some (.string (tx q)) ∧ q.length ≤ 9223372036854775807 := by
      intro i hi
      obtain ⟨h1, h2⟩ := hel i (by omega)
      obtain ⟨s1, e1, _, w1⟩ := DataW.trod_string Tryz.underlying9 h2
      simp at e1
      obtain ⟨l, rfl, hll⟩ := tx_of2 s1
      rw [e1] at h1
      exact ⟨l, h1, by rw [hll]; unfold maxLen at w1; omega⟩
    obtain ⟨q, hq⟩ := Go.Deep.choose_lt each
    have hqt : ∀ j, j < len → ((List.range len).map q).getD j [] = q j := fun j hj => by simp [List.getD_eq_getElem?_getD, hj]
    refine ⟨(List.range len).map q, ⟨some a, cap, by simp, ⟨by simpa using hl, fun e => by cases e⟩, fun hpos => ?_⟩, by simp; unfold maxLen at hm; omega, fun x hx => ?_⟩
    · have hpos' : 0 < len := by simpa using hpos
      obtain ⟨b, off, rfl⟩ := plain_of (hq 0 hpos').1
      refine ⟨b, off, rfl, fun j hj => ?_⟩
      have hj' : j < len := by simpa using hj
      rw [hqt j hj']
      simpa [Go.WideShapes.add_plain] using (hq j hj').1
    · obtain ⟨i, hi, rfl⟩ := List.mem_map.1 hx
      exact (hq i (by simpa using hi)).2
theorem array5 {α : Type} {cs : Array α} (h : cs.size = 5) : ∃ c0 c1 c2 c3 c4, cs = #[c0, c1, c2, c3, c4] := by
  obtain ⟨l⟩ := cs
  match l, h with
  | [c0, c1, c2, c3, c4], _ => exact ⟨c0, c1, c2, c3, c4, rfl⟩
section
variable {H : Type} {enc : TypeId × Value → H} {P : Program} {w : World} {base : Nat} {spare : Nat → Bool} {held : Bool}
theorem trod_struct5 {t : TypeId} {f0 f1 f2 f3 f4 : Field} {fuel : Nat} {cs : List Value} {x : DataW H × List MemPlace} (ht : P.underlying t = some (.struct #[f0, f1, f2, f3, f4])) (h : DataW.trod enc P w base spare held fuel t cs = some x) :
    ∃ y0 y1 y2 y3 y4 n, cs.length = P.cellsOf t ∧ DataW.trod enc P w base spare held n f0.type ((cs.drop f0.offset).take (P.cellsOf f0.type)) = some y0 ∧
      DataW.trod enc P w base spare held n f1.type ((cs.drop f1.offset).take (P.cellsOf f1.type)) = some y1 ∧ DataW.trod enc P w base spare held n f2.type ((cs.drop f2.offset).take (P.cellsOf f2.type)) = some y2 ∧
      DataW.trod enc P w base spare held n f3.type ((cs.drop f3.offset).take (P.cellsOf f3.type)) = some y3 ∧ DataW.trod enc P w base spare held n f4.type ((cs.drop f4.offset).take (P.cellsOf f4.type)) = some y4 := by
  obtain ⟨xs, n, _, rfl, hl, hlen, hf⟩ := DataW.trod_struct ht h
  match xs, hlen with
  | [y0, y1, y2, y3, y4], _ => exact ⟨y0, y1, y2, y3, y4, n, hl, by simpa using hf 0 f0 rfl, by simpa using hf 1 f1 rfl, by simpa using hf 2 f2 rfl, by simpa using hf 3 f3 rfl, by simpa using hf 4 f4 rfl⟩
end
instance : Inhabited At := ⟨a0⟩
set_option maxRecDepth 20000 in
theorem opened_atts {H : Type} {enc : TypeId × Value → H} {W : World} {fuel : Nat} {u : Value} {y : DataW H × List MemPlace}
    (hf : DataW.trod enc Tryz.prog W 0 (fun _ => true) true fuel 55 [u] = some y) : ∃ L, AttsAt W u L ∧ L.length ≤ 9223372036854775807 ∧ ∀ a ∈ L, AtWf a := by
  rcases Go.Deep.open_slice Tryz.underlying55 hf with ⟨hcs, hx⟩ | ⟨a, len, cap, m, n, D, Pl, hcs, _, hl, hm, hmm, hx, hel⟩
  · simp at hcs
    subst hcs
    exact ⟨[], attsAt_nil W, by simp, by simp⟩
  · simp at hcs
    subst hcs
    simp only [if_true] at hmm
    have each : ∀ i, i < len → ∃ q : At, (W.cell? (a.add (i * 5)) = some (.string (tx q.nm)) ∧ W.cell? (a.add (i * 5 + 1)) = some (.int .i64 q.k) ∧ (∃ u, W.cell? (a.add (i * 5 + 2)) = some u ∧ StrsAt W u q.ws) ∧ W.cell? (a.add (i * 5 + 3)) = some (.int .i64 q.lo) ∧ W.cell? (a.add (i * 5 + 4)) = some (.int .i64 q.hi)) ∧ AtWf q := by
      intro i hi
      obtain ⟨cs', h1, h2⟩ := hel i (by omega)
      rw [cells_at] at h1
      obtain ⟨_, hlen, hcell⟩ := World.cells?_some h1
      obtain ⟨y0, y1, y2, y3, y4, k, _, t0, t1, t2, t3, t4⟩ := trod_struct5 Tryz.underlying84 h2
      obtain ⟨v0, v1, v2, v3, v4, hcs4⟩ := array5 (cs := cs'.toArray) (by simpa using hlen)
      have hcs5 : cs' = [v0, v1, v2, v3, v4] := by simpa using congrArg Array.toList hcs4
      subst hcs5
      simp [cells_str, cells_i, cells_ws] at t0 t1 t2 t3 t4
      obtain ⟨s0, e0, _, w0⟩ := DataW.trod_string Tryz.underlying9 t0
      obtain ⟨k1, e1, _, w1⟩ := DataW.trod_int Tryz.underlying3 t1
      obtain ⟨ws, g, hws⟩ := opened_strs t2
      obtain ⟨k3, e3, _, w3⟩ := DataW.trod_int Tryz.underlying3 t3
      obtain ⟨k4, e4, _, w4⟩ := DataW.trod_int Tryz.underlying3 t4
      obtain ⟨l, rfl, hll⟩ := tx_of2 s0
      have g0 := hcell 0 (by omega)
      have g1 := hcell 1 (by omega)
      have g2 := hcell 2 (by omega)
      have g3 := hcell 3 (by omega)
      have g4 := hcell 4 (by omega)
      rw [Go.Deep.add_add] at g0 g1 g2 g3 g4
      simp at e0 e1 e3 e4
      subst e0; subst e1; subst e3; subst e4
      exact ⟨⟨l, k1, ws, k3, k4⟩, ⟨by simpa using g0, by simpa using g1, ⟨v2, by simpa using g2, g⟩, by simpa using g3, by simpa using g4⟩, ⟨by rw [hll]; unfold maxLen at w0; omega, hws⟩, w1, w3, w4⟩
    obtain ⟨q, hq⟩ := Go.Deep.choose_lt each
    have hqt : ∀ j, j < len → at' ((List.range len).map q) j = q j := fun j hj => by
      rw [at_at _ j (by simpa using hj)]; simp
    refine ⟨(List.range len).map q, ⟨some a, cap, by simp, ⟨by simpa using hl, fun e => by cases e⟩, fun hpos => ?_⟩, by simp; unfold maxLen at hm; omega, fun x hx => ?_⟩
    · have hpos' : 0 < len := by simpa using hpos
      obtain ⟨b, off, rfl⟩ := plain_of (by simpa using (hq 0 hpos').1.1)
      refine ⟨b, off, rfl, fun j hj => ?_⟩
      have hj' : j < len := by simpa using hj
      have := (hq j hj').1
      rw [hqt j hj']
      simpa [Go.WideShapes.add_plain, Nat.add_assoc] using this
    · obtain ⟨i, hi, rfl⟩ := List.mem_map.1 hx
      exact (hq i (by simpa using hi)).2
set_option maxRecDepth 20000 in
theorem opened_schema {H : Type} {enc : TypeId × Value → H} {W : World} {r : Reach} {b0 : Nat} {v : Value} {d : DataW H} {p : List MemPlace} (hv : Value.okWide Tryz.prog W r b0 57 v)
    (h0 : DataW.Trod enc Tryz.prog W 0 (fun _ => true) true 57 v d p) : ∃ u, v = .agg #[u] ∧ ∃ L, AttsAt W u L ∧ L.length ≤ 9223372036854775807 ∧ ∀ a ∈ L, AtWf a := by
  obtain ⟨cs, rfl, hsz⟩ := okWide_struct Tryz.underlying57 hv
  rw [cells_sc] at hsz
  obtain ⟨u, rfl⟩ : ∃ u, cs = #[u] := by
    obtain ⟨l⟩ := cs
    match l, hsz with
    | [u], _ => exact ⟨u, rfl⟩
  obtain ⟨fuel, hf⟩ := h0
  obtain ⟨xs, n, _, _, hl, hlen, hff⟩ := DataW.trod_struct Tryz.underlying57 hf
  have h1 := hff 0 _ rfl
  simp [Value.cells, cells_ats] at h1
  match xs, hlen with
  | [y0], _ =>
    simp at h1
    exact ⟨u, rfl, opened_atts h1⟩

set_option maxRecDepth 20000 in
theorem opened_attr {H : Type} {enc : TypeId × Value → H} {W : World} {r : Reach} {b0 : Nat} {v : Value} {d : DataW H} {p : List MemPlace} (hv : Value.okWide Tryz.prog W r b0 84 v)
    (h0 : DataW.Trod enc Tryz.prog W 0 (fun _ => true) true 84 v d p) : ∃ (a : At) (u : Value), v = .agg #[.string (tx a.nm), .int .i64 a.k, u, .int .i64 a.lo, .int .i64 a.hi] ∧ StrsAt W u a.ws ∧ AtWf a := by
  obtain ⟨cs, rfl, hsz⟩ := okWide_struct Tryz.underlying84 hv
  rw [cells_at] at hsz
  obtain ⟨v0, v1, v2, v3, v4, rfl⟩ := array5 hsz
  obtain ⟨fuel, hf⟩ := h0
  obtain ⟨y0, y1, y2, y3, y4, k, _, t0, t1, t2, t3, t4⟩ := trod_struct5 Tryz.underlying84 hf
  simp [Value.cells, cells_str, cells_i, cells_ws] at t0 t1 t2 t3 t4
  obtain ⟨s0, e0, _, w0⟩ := DataW.trod_string Tryz.underlying9 t0
  obtain ⟨k1, e1, _, w1⟩ := DataW.trod_int Tryz.underlying3 t1
  obtain ⟨ws, g, hws⟩ := opened_strs t2
  obtain ⟨k3, e3, _, w3⟩ := DataW.trod_int Tryz.underlying3 t3
  obtain ⟨k4, e4, _, w4⟩ := DataW.trod_int Tryz.underlying3 t4
  obtain ⟨l, rfl, hll⟩ := tx_of2 s0
  simp at e0 e1 e3 e4
  subst e0; subst e1; subst e3; subst e4
  exact ⟨⟨l, k1, ws, k3, k4⟩, v2, rfl, g, ⟨by rw [hll]; unfold maxLen at w0; omega, hws⟩, w1, w3, w4⟩
end Go.Proofs.YtjmipikahaoblaaGreatDoor.Sc
namespace Go.Proofs.YtjmipikahaoblaaGreatDoor.Sc
open Go.RowKit Go.Lib Go.Proofs.YtjmipikahaoblaaGreatDoor.Bas Go.Proofs.YtjmipikahaoblaaGreatDoor.Cal Go.Proofs.YtjmipikahaoblaaGreatDoor.Lx
set_option linter.unusedVariables false

/-- A number; nothing of before has changed. -/
def ErrBe (r : Int) (w : World) (e : Ending) (w' : World) : Prop := e = .returned (.int .i64 r) ∧ Below w.heap.size w w'
theorem alloc_at (w : World) (o : Obj) : Below w.heap.size w (w.alloc o) := (Below.refl _ _).alloc (Nat.le_refl _) o
def AtV (a : At) (u : Value) : Value := .agg #[.string (tx a.nm), .int .i64 a.k, u, .int .i64 a.lo, .int .i64 a.hi]
theorem ret_i {a b : Int} (h : a = b) : Ending.returned (.int .i64 a) = .returned (.int .i64 b) := by rw [h]
theorem trans_b {a b c : World} (h : Below a.heap.size a b) (k : Below b.heap.size b c) : Below a.heap.size a c := h.trans (k.mono h.size)
/-- The five cells of an attribute. -/
def AAt (W : World) (b : Nat) (a : At) (u : Value) : Prop := b < W.heap.size ∧ W.cell? ⟨b, 0, none⟩ = some (.string (tx a.nm)) ∧ W.cell? ⟨b, 1, none⟩ = some (.int .i64 a.k) ∧ W.cell? ⟨b, 2, none⟩ = some u ∧ W.cell? ⟨b, 3, none⟩ = some (.int .i64 a.lo) ∧ W.cell? ⟨b, 4, none⟩ = some (.int .i64 a.hi)
theorem AAt.new (w : World) (a : At) (u : Value) (t : TypeId) : AAt (w.alloc (.cells #[.string (tx a.nm), .int .i64 a.k, u, .int .i64 a.lo, .int .i64 a.hi] t)) w.heap.size a u := by
  refine ⟨by simp, by simp, by simp, by simp, by simp, by simp⟩
theorem AAt.drewN {W : World} {b : Nat} {a : At} {u : Value} (h : AAt W b a u) (n : Nat) : AAt (W.drewN n) b a u := h
theorem AAt.keep {w w' : World} {b : Nat} {a : At} {u : Value} (h : AAt w b a u) (hb : Below w.heap.size w w') : AAt w' b a u := by
  obtain ⟨h0, h1, h2, h3, h4, h5⟩ := h
  refine ⟨Nat.lt_of_lt_of_le h0 hb.size, ?_, ?_, ?_, ?_, ?_⟩
  · rw [hb.cell (p := ⟨b, 0, none⟩) h0]; exact h1
  · rw [hb.cell (p := ⟨b, 1, none⟩) h0]; exact h2
  · rw [hb.cell (p := ⟨b, 2, none⟩) h0]; exact h3
  · rw [hb.cell (p := ⟨b, 3, none⟩) h0]; exact h4
  · rw [hb.cell (p := ⟨b, 4, none⟩) h0]; exact h5
/-- One cell. -/
def OAt (W : World) (b : Nat) (u : Value) : Prop := b < W.heap.size ∧ W.cell? ⟨b, 0, none⟩ = some u
theorem OAt.new (w : World) (u : Value) (t : TypeId) : OAt (w.alloc (.cells #[u] t)) w.heap.size u := ⟨by simp, by simp⟩
theorem OAt.keep {w w' : World} {b : Nat} {u : Value} (h : OAt w b u) (hb : Below w.heap.size w w') : OAt w' b u := by
  obtain ⟨h0, h1⟩ := h
  exact ⟨Nat.lt_of_lt_of_le h0 hb.size, by rw [hb.cell (p := ⟨b, 0, none⟩) h0]; exact h1⟩
theorem ret_b {a b : Bool} (h : a = b) : Ending.returned (.bool a) = .returned (.bool b) := by rw [h]
theorem size_alloc1 (w : World) (o : Obj) : (w.alloc o).heap.size = w.heap.size + 1 := by simp
theorem tx_inj {x y : List UInt8} (h : tx x = tx y) : x = y := by
  have := congrArg bl h
  rwa [bl_tx, bl_tx] at this
theorem tx_test (x y : List UInt8) : ((tx x).toList == (tx y).toList) = decide (x = y) := by
  rw [toList_bl, toList_bl, bl_tx, bl_tx]
  by_cases h : x = y
  · simp [h]
  · rw [decide_eq_false h]; simpa using h
/-- Nothing but draws. -/
def BoolDr2 (b : Bool) (w : World) (e : Ending) (w' : World) : Prop := e = .returned (.bool b) ∧ Dr w w'
end Go.Proofs.YtjmipikahaoblaaGreatDoor.Sc
namespace Go.Proofs.YtjmipikahaoblaaGreatDoor.Sc
open Go.RowKit Go.Lib Go.Proofs.YtjmipikahaoblaaGreatDoor.Bas Go.Proofs.YtjmipikahaoblaaGreatDoor.Cal Go.Proofs.YtjmipikahaoblaaGreatDoor.Lx
set_option linter.unusedVariables false

theorem own_below {B C : Nat} {e : TypeId} {sz n : Nat} {xs : List Value} {w w' : World} {v : Value} (h : w.ownsRow B e sz v n xs) (hb : Below C w w') (hC : ∀ g, v.ownBlock = some g → g < C) : w'.ownsRow B e sz v n xs := by
  obtain ⟨h1, h2⟩ := h
  refine ⟨h1, ?_⟩
  rcases h2 with h2 | ⟨g, cap, cur, hv, hg, hh, r⟩
  · exact Or.inl h2
  · exact Or.inr ⟨g, cap, cur, hv, hg, by rw [hb.block g (hC g (by subst hv; rfl))]; exact hh, r⟩
theorem own_keep {B : Nat} {e : TypeId} {sz n : Nat} {xs : List Value} {w w' : World} {v : Value} (h : w.ownsRow B e sz v n xs) (hb : Below w.heap.size w w') : w'.ownsRow B e sz v n xs :=
  own_below h hb fun g hg => (World.ownsRow.lt h g hg).2
theorem own_al {B : Nat} {e : TypeId} {sz n : Nat} {xs : List Value} {w : World} {v : Value} {o : Obj} (h : w.ownsRow B e sz v n xs) : (w.alloc o).ownsRow B e sz v n xs := World.ownsRow.alloc h o
theorem own_block {B : Nat} {e : TypeId} {sz n : Nat} {xs : List Value} {w w' : World} {v : Value} (h : w.ownsRow B e sz v n xs) (hb : ∀ g, v.ownBlock = some g → w'.heap[g]? = w.heap[g]?) : w'.ownsRow B e sz v n xs := by
  obtain ⟨h1, h2⟩ := h
  refine ⟨h1, ?_⟩
  rcases h2 with h2 | ⟨g, cap, cur, hv, hg, hh, r⟩
  · exact Or.inl h2
  · exact Or.inr ⟨g, cap, cur, hv, hg, by rw [hb g (by subst hv; rfl)]; exact hh, r⟩
/-- A row of strings of the call's own. -/
def sv (l : List (List UInt8)) : List Value := l.map fun x => .string (tx x)
def SRow (B : Nat) (w : World) (v : Value) (L : List (List UInt8)) : Prop := w.ownsRow B 9 1 v L.length (sv L)
theorem sv_at (L : List (List UInt8)) (i : Nat) (h : i < L.length) : (sv L)[i]? = some (.string (tx (L.getD i []))) := by
  simp [sv, List.getD_eq_getElem?_getD, h]
theorem srow_nil (B : Nat) (w : World) : SRow B w (.slice none 0 0) [] := World.ownsRow_nil w B _ 1
theorem SRow.at {B : Nat} {w : World} {v : Value} {L : List (List UInt8)} (h : SRow B w v L) : StrsAt w v L := by
  have hlt := World.ownsRow.lt h
  rcases h.2 with ⟨rfl, h0⟩ | ⟨g, cap, cur, rfl, hb, hg, hnc, _⟩
  · exact ⟨none, 0, by rw [h0], ⟨by omega, fun _ => rfl⟩, fun h => by omega⟩
  · refine ⟨_, _, rfl, ⟨hnc, fun e => by cases e⟩, fun _ => ⟨g, 0, rfl, fun i hi => ?_⟩⟩
    have := sv_at L i hi
    rw [Nat.zero_add, World.ownsRow.cellAt h i (by omega)]
    exact this
theorem SRow.keep {B : Nat} {w w' : World} {v : Value} {L : List (List UInt8)} (h : SRow B w v L) (hb : Below w.heap.size w w') : SRow B w' v L := own_keep h hb
theorem SRow.block {B : Nat} {w : World} {v : Value} {L : List (List UInt8)} (h : SRow B w v L) : ∀ g, v.ownBlock = some g → B ≤ g ∧ g < w.heap.size := World.ownsRow.lt h
theorem SRow.mono {B B' : Nat} {w : World} {v : Value} {L : List (List UInt8)} (h : SRow B w v L) (hB : B' ≤ B) : SRow B' w v L := Go.Joins.ownsRow_le h hB
theorem info_str : ∃ i, Tryz.prog.info? 9 = some i ∧ i.zero = some (.string ByteArray.empty) ∧ i.size = 1 ∧ i.bytes = 16 := by
  have h : (Tryz.prog.info? 9).map (fun i => (i.zero, i.size, i.bytes)) = some (some (.string ByteArray.empty), 1, 16) := by kernel_rfl
  cases hh : Tryz.prog.info? 9 with
  | none => rw [hh] at h; simp at h
  | some i => rw [hh] at h; simp at h; exact ⟨i, rfl, h.1, h.2.1, h.2.2⟩
/-- append of one string that was just laid into a block of its own. -/
theorem wpList_append_str {w : World} {ops : Array Oper} {rest : List Oper} {o : Oper} {a : Act} {Q : Exit → Act → World → Prop} (hgd : o.guard = none) (s x : Operand)
    (ho : o.op = .call { callee := .builtin .append, args := #[s, x], argTypes := #[22, 22] })
    (B : Nat) (v : Value) (L : List (List UInt8)) (hs : a.eval s = v) (hrow : SRow B w v L) (y : List UInt8) (hx : a.eval x = .slice (some ⟨w.heap.size, 0, none⟩) 1 1)
    (hlen : L.length ≤ 1099511627776) (hB : B ≤ w.heap.size)
    (h : ∀ v' w', SRow B w' v' (L ++ [y]) → w.grownBy w' v.ownBlock → wpList Tryz.prog ops Q rest (a.put o.dst v') w') : wpList Tryz.prog ops Q (o :: rest) a (w.alloc (.cells #[.string (tx y)] 9)) := by
  obtain ⟨i0, hi, hz0, hz1, hz2⟩ := info_str
  refine wpList_append_own _ hgd s x 22 ho B 9 i0 (.string ByteArray.empty) 1 16 Tryz.underlying22 hi hz0 hz1 hz2 rfl (by decide) v L.length (sv L) hs (World.ownsRow.alloc hrow _) ⟨w.heap.size, 0, none⟩ 1 1 [.string (tx y)] hx rfl ?_ ?_ (by unfold maxLen; omega) (by omega) (by simp; omega) ?_
  · intro j u hu
    cases j with
    | zero => simp at hu; subst hu; simp [Addr.add]
    | succ j => simp at hu
  · intro u hu
    simp at hu; subst hu; rfl
  · intro v' w' hown hg _
    refine h v' w' ?_ (grownBy_alloc hg)
    unfold SRow sv
    rw [List.length_append, List.map_append]
    exact hown
/-- .. at a step of a region that draws its order. -/
theorem step_append_str {w : World} {ops : Array Oper} {o : Oper} {a : Act} {K : Act → World → Prop} {Q : Exit → Act → World → Prop} {E : Prop} (hgd : o.guard = none) (s x : Operand)
    (ho : o.op = .call { callee := .builtin .append, args := #[s, x], argTypes := #[22, 22] })
    (B : Nat) (v : Value) (L : List (List UInt8)) (hs : a.eval s = v) (hrow : SRow B w v L) (g : Nat) (y : List UInt8) (hx : a.eval x = .slice (some ⟨g, 0, none⟩) 1 1)
    (hc : w.cell? ⟨g, 0, none⟩ = some (.string (tx y))) (hlen : L.length ≤ 1099511627776) (hB : B ≤ w.heap.size)
    (h : ∀ v' w', SRow B w' v' (L ++ [y]) → w.grownBy w' v.ownBlock → K (a.put o.dst v') w') : if Region.wanted o (yielded ops a.tmps) = true then Oper.wp Tryz.prog o a w K Q else E := by
  obtain ⟨i0, hi, hz0, hz1, hz2⟩ := info_str
  refine step_append_lies w hgd s x 22 ho B 9 i0 (.string ByteArray.empty) 1 16 Tryz.underlying22 hi hz0 hz1 hz2 rfl (by decide) v L.length (sv L) hs hrow ⟨g, 0, none⟩ 1 1 [.string (tx y)] hx rfl ?_ ?_ (by decide) (by unfold maxLen; omega) (by omega) hB w.heap.size rfl ?_
  · intro j u hu
    cases j with
    | zero => simp at hu; subst hu; simpa [Addr.add] using hc
    | succ j => simp at hu
  · intro u hu
    simp at hu; subst hu; rfl
  · intro g' cap w' hown hg _ _
    refine h _ w' ?_ hg
    unfold SRow sv
    rw [List.length_append, List.map_append]
    exact hown
/-- append of a list of strings onto an empty one that was just laid. -/
theorem wpList_copy_strs {w : World} {ops : Array Oper} {rest : List Oper} {o : Oper} {a : Act} {Q : Exit → Act → World → Prop} (hgd : o.guard = none) (s x : Operand)
    (ho : o.op = .call { callee := .builtin .append, args := #[s, x], argTypes := #[22, 22] })
    (v0 : Value) (l : List (List UInt8)) (h6 : l.length ≤ 100) (hS : StrsAt (w.alloc (.cells #[] 9)) v0 l) (hs : a.eval s = .slice (some ⟨w.heap.size, 0, none⟩) 0 0) (hx : a.eval x = v0)
    (h : ∀ v' w', SRow w.heap.size w' v' l → (w.alloc (.cells #[] 9)).grownBy w' (some w.heap.size) → wpList Tryz.prog ops Q rest (a.put o.dst v') w') : wpList Tryz.prog ops Q (o :: rest) a (w.alloc (.cells #[] 9)) := by
  obtain ⟨i0, hi, hz0, hz1, hz2⟩ := info_str
  have hr := World.ownsRow_made (base := w.heap.size) (e := 9) (size := 1) w #[] 0 (Nat.le_refl _) (by decide) (by simp)
  obtain ⟨p, c, rfl, ⟨_, hpc⟩, hp⟩ := hS
  cases p with
  | none =>
    have hl : l.length = 0 := by
      by_cases e : 0 < l.length
      · obtain ⟨b, off, e2, _⟩ := hp e; cases e2
      · omega
    have hl0 : l = [] := List.length_eq_zero_iff.1 hl
    subst hl0
    have hc0 := hpc rfl
    subst hc0
    refine wpList_append_own_none hgd s x 22 ho w.heap.size 9 i0 1 Tryz.underlying22 hi (.slice (some ⟨w.heap.size, 0, none⟩) 0 0) 0 [] hs hr hx ?_
    exact h _ _ hr ⟨rfl, rfl, rfl, Nat.le_refl _, fun _ _ _ => rfl⟩
  | some ad =>
    refine wpList_append_own _ hgd s x 22 ho w.heap.size 9 i0 (.string ByteArray.empty) 1 16 Tryz.underlying22 hi hz0 hz1 hz2 rfl (by decide) (.slice (some ⟨w.heap.size, 0, none⟩) 0 0) 0 [] hs hr ad l.length c (sv l) hx (by simp [sv]) ?_ ?_ (by unfold maxLen; omega) (by omega) (by simp) ?_
    · intro j u hu
      have hj : j < l.length := by have := (List.getElem?_eq_some_iff.1 hu).1; simpa [sv] using this
      obtain ⟨b, off, e2, hc⟩ := hp (by omega)
      cases e2
      rw [sv_at l j hj] at hu
      cases hu
      rw [Go.WideShapes.add_plain]
      exact hc j hj
    · intro u hu
      obtain ⟨y, _, rfl⟩ := List.mem_map.1 hu
      rfl
    · intro v' w' hown hg _
      refine h v' w' ?_ hg
      unfold SRow
      simpa using hown
theorem StrsAt.take {w : World} {p : Option Addr} {n c : Nat} {l : List (List UInt8)} (h : StrsAt w (.slice p n c) l) (k : Nat) (hk : k ≤ n) : StrsAt w (.slice p k c) (l.take k) := by
  obtain ⟨p', c', hv, ⟨h1, h2⟩, hp⟩ := h
  simp only [Value.slice.injEq] at hv
  obtain ⟨rfl, rfl, rfl⟩ := hv
  have hl : (l.take k).length = k := by rw [List.length_take]; omega
  refine ⟨p, c, by rw [hl], ⟨by omega, h2⟩, fun h0 => ?_⟩
  rw [hl] at h0 ⊢
  obtain ⟨b, off, e, hc⟩ := hp (by omega)
  refine ⟨b, off, e, fun j hj => ?_⟩
  have := hc j (by omega)
  rw [List.getD_eq_getElem?_getD, List.getElem?_take, if_pos hj, ← List.getD_eq_getElem?_getD]
  exact this
theorem srow_lit (B : Nat) (w : World) (l : List (List UInt8)) (hB : B ≤ w.heap.size) (hl : l.length ≤ 1000) : SRow B (w.alloc (.cells (sv l).toArray 9)) (.slice (some ⟨w.heap.size, 0, none⟩) l.length l.length) l := by
  have := World.ownsRow_lit (e := 9) (size := 1) (base := B) w (sv l).toArray l.length hB (by unfold maxLen; omega) (by simp [sv])
  unfold SRow
  simpa using this
end Go.Proofs.YtjmipikahaoblaaGreatDoor.Sc
namespace Go.Proofs
open Go.Shelf Go.RowKit Go.Lib Go.Sort
/-- The name of the table of powers of ten, as the rows have it. -/
abbrev powName : String := (YtjmipikahaoblaaGreatDoor.Rows.syntaxValidRow.laid.map (·.1)).getD 2 "none"
def Tryz.lays170_ren : Go.Shelf.Ren := ⟨fun | 170 => 67 | n => n, fun | 70 => 90 | 3 => 3 | 0 => 0 | 72 => 93 | 37 => 91 | 5 => 5 | n => n, fun | n => n⟩
theorem Tryz.lays170 : Go.Proofs.Lays.n170 Tryz.prog Tryz.lays170_ren := {
  mixed := by kernel_rfl
  f170 := Tryz.func67.trans (congrArg some (by kernel_rfl))
  t0 := Tryz.underlying0
  a0 := Tryz.isAgg0
  z0 := Tryz.sizeOf0
  v0 := Tryz.zeroValue0
  t3 := Tryz.underlying3
  a3 := Tryz.isAgg3
  z3 := Tryz.sizeOf3
  v3 := Tryz.zeroValue3
  t37 := Tryz.underlying91
  a37 := Tryz.isAgg91
  z37 := Tryz.sizeOf91
  v37 := Tryz.zeroValue91
  t70 := Tryz.underlying90
  a70 := Tryz.isAgg90
  z70 := Tryz.sizeOf90
  v70 := Tryz.zeroValue90
  t72 := Tryz.underlying93
  a72 := Tryz.isAgg93
  z72 := Tryz.sizeOf93
  v72 := Tryz.zeroValue93 }
def Tryz.lays169_ren : Go.Shelf.Ren := ⟨fun | 169 => 68 | n => n, fun | 70 => 90 | 9 => 9 | 0 => 0 | 72 => 93 | 37 => 91 | 127 => 136 | 3 => 3 | 5 => 5 | n => n, fun | n => n⟩
theorem Tryz.lays169 : Go.Proofs.Lays.n169 Tryz.prog Tryz.lays169_ren := {
  mixed := by kernel_rfl
  f169 := Tryz.func68.trans (congrArg some (by kernel_rfl))
  t0 := Tryz.underlying0
  a0 := Tryz.isAgg0
  z0 := Tryz.sizeOf0
  v0 := Tryz.zeroValue0
  t3 := Tryz.underlying3
  a3 := Tryz.isAgg3
  z3 := Tryz.sizeOf3
  v3 := Tryz.zeroValue3
  t9 := Tryz.underlying9
  a9 := Tryz.isAgg9
  z9 := Tryz.sizeOf9
  v9 := Tryz.zeroValue9
  t37 := Tryz.underlying91
  a37 := Tryz.isAgg91
  z37 := Tryz.sizeOf91
  v37 := Tryz.zeroValue91
  t70 := Tryz.underlying90
  a70 := Tryz.isAgg90
  z70 := Tryz.sizeOf90
  v70 := Tryz.zeroValue90
  t72 := Tryz.underlying93
  a72 := Tryz.isAgg93
  z72 := Tryz.sizeOf93
  v72 := Tryz.zeroValue93
  t127 := Tryz.underlying136
  a127 := Tryz.isAgg136
  z127 := Tryz.sizeOf136
  v127 := Tryz.zeroValue136 }
theorem Tryz.Builder_Extra_169 : Builder.Extra Tryz.prog Tryz.lays169_ren := {
  sizeBuilder := by kernel_rfl
  liesBuilder := by kernel_rfl
  t5 := Tryz.underlying5
  a5 := Tryz.isAgg5
  z5 := Tryz.sizeOf5
  v5 := Tryz.zeroValue5
  infoByte := by kernel_rfl
  cellsByte := by kernel_rfl
  sizeByte := by kernel_rfl
  neB5 := by decide }
theorem Tryz.Builder_Len_f (B b : Nat) (bs : List Value) (w : World) (h : Lib.IsBuilderF 93 5 B b bs w) :
    Calls Tryz.prog 67 #[.pointer (some ⟨b, 0, none⟩)] w fun e w' => e = .returned (.int .i64 bs.length) ∧ w' = w := Any.Builder_Len_f Tryz.lays170 B b bs w h
theorem Tryz.Builder_String_any_k (B b : Nat) (l : List UInt8) (w : World) (h : Lib.IsBuilderF 93 5 B b (Lib.byteCells l) w) (hBw : B ≤ w.heap.size) :
    Calls Tryz.prog 68 #[.pointer (some ⟨b, 0, none⟩)] w fun e w' => e = .returned (.string ⟨l.toArray⟩) ∧ (Lib.IsBuilderF 93 5 B b (Lib.byteCells l) w' ∧ Below B w w' ∧ Lib.OthersKept 5 (some b) w w') := Any.Builder_String_any_k Tryz.lays169 Tryz.Builder_Extra_169 B b l w h hBw
def Tryz.laysM171_ren : Go.Shelf.Ren := ⟨fun | 171 => 140 | 243 => 161 | 246 => 179 | 283 => 195 | 284 => 196 | 285 => 197 | 286 => 198 | 129 => 109 | 317 => 205 | 318 => 206 | 319 => 207 | 320 => 208 | 337 => 211 | 338 => 212 | n => n, fun | 3 => 3 | 9 => 9 | 2 => 2 | 4 => 4 | 171 => 179 | 0 => 0 | 53 => 135 | 37 => 91 | 5 => 5 | 173 => 181 | 212 => 192 | 51 => 133 | 20 => 20 | 213 => 193 | 46 => 88 | 232 => 198 | 233 => 199 | n => n, fun | 17 => 5 | 18 => 6 | 19 => 7 | n => n⟩
theorem Tryz.laysM171 : Go.Proofs.LaysM.n171 Tryz.prog Tryz.laysM171_ren := {
  mixed := by kernel_rfl
  f129 := Tryz.func109.trans (congrArg some (by kernel_rfl))
  f171 := Tryz.func140.trans (congrArg some (by kernel_rfl))
  f243 := Tryz.func161.trans (congrArg some (by kernel_rfl))
  f246 := Tryz.func179.trans (congrArg some (by kernel_rfl))
  f283 := Tryz.func195.trans (congrArg some (by kernel_rfl))
  f284 := Tryz.func196.trans (congrArg some (by kernel_rfl))
  f285 := Tryz.func197.trans (congrArg some (by kernel_rfl))
  f286 := Tryz.func198.trans (congrArg some (by kernel_rfl))
  f317 := Tryz.func205.trans (congrArg some (by kernel_rfl))
  f318 := Tryz.func206.trans (congrArg some (by kernel_rfl))
  f319 := Tryz.func207.trans (congrArg some (by kernel_rfl))
  f320 := Tryz.func208.trans (congrArg some (by kernel_rfl))
  f337 := Tryz.func211.trans (congrArg some (by kernel_rfl))
  f338 := Tryz.func212.trans (congrArg some (by kernel_rfl))
  t0 := Tryz.underlying0
  a0 := Tryz.isAgg0
  z0 := Tryz.sizeOf0
  v0 := Tryz.zeroValue0
  t2 := Tryz.underlying2
  a2 := Tryz.isAgg2
  z2 := Tryz.sizeOf2
  v2 := Tryz.zeroValue2
  t3 := Tryz.underlying3
  a3 := Tryz.isAgg3
  z3 := Tryz.sizeOf3
  v3 := Tryz.zeroValue3
  t4 := Tryz.underlying4
  a4 := Tryz.isAgg4
  z4 := Tryz.sizeOf4
  v4 := Tryz.zeroValue4
  t5 := Tryz.underlying5
  a5 := Tryz.isAgg5
  z5 := Tryz.sizeOf5
  v5 := Tryz.zeroValue5
  t9 := Tryz.underlying9
  a9 := Tryz.isAgg9
  z9 := Tryz.sizeOf9
  v9 := Tryz.zeroValue9
  t20 := Tryz.underlying20
  a20 := Tryz.isAgg20
  z20 := Tryz.sizeOf20
  v20 := Tryz.zeroValue20
  t37 := Tryz.underlying91
  a37 := Tryz.isAgg91
  z37 := Tryz.sizeOf91
  v37 := Tryz.zeroValue91
  t46 := Tryz.underlying88
  a46 := Tryz.isAgg88
  z46 := Tryz.sizeOf88
  v46 := Tryz.zeroValue88
  t51 := Tryz.underlying133
  a51 := Tryz.isAgg133
  z51 := Tryz.sizeOf133
  v51 := Tryz.zeroValue133
  t53 := Tryz.underlying135
  a53 := Tryz.isAgg135
  z53 := Tryz.sizeOf135
  v53 := Tryz.zeroValue135
  t171 := Tryz.underlying179
  a171 := Tryz.isAgg179
  z171 := Tryz.sizeOf179
  v171 := Tryz.zeroValue179
  t173 := Tryz.underlying181
  a173 := Tryz.isAgg181
  z173 := Tryz.sizeOf181
  v173 := Tryz.zeroValue181
  t212 := Tryz.underlying192
  a212 := Tryz.isAgg192
  z212 := Tryz.sizeOf192
  v212 := Tryz.zeroValue192
  t213 := Tryz.underlying193
  a213 := Tryz.isAgg193
  z213 := Tryz.sizeOf193
  t232 := Tryz.underlying198
  a232 := Tryz.isAgg198
  z232 := Tryz.sizeOf198
  v232 := Tryz.zeroValue198
  t233 := Tryz.underlying199
  a233 := Tryz.isAgg199
  z233 := Tryz.sizeOf199
  v233 := Tryz.zeroValue199
  g17 := by kernel_rfl
  g18 := by kernel_rfl
  g19 := by kernel_rfl
  i0 := by kernel_rfl
  i2 := by kernel_rfl
  i3 := by kernel_rfl
  i4 := by kernel_rfl
  i5 := by kernel_rfl
  i9 := by kernel_rfl
  i20 := by kernel_rfl
  i37 := by kernel_rfl
  i46 := by kernel_rfl
  i51 := by kernel_rfl
  i53 := by kernel_rfl
  i171 := by kernel_rfl
  i173 := by kernel_rfl
  i212 := by kernel_rfl
  i232 := by kernel_rfl
  i233 := by kernel_rfl
  m17 := by kernel_rfl
  m18 := by kernel_rfl
  m19 := by kernel_rfl }
theorem Tryz.strconv_Itoa (n : Int) (h0 : -9223372036854775808 ≤ n) (h1 : n ≤ 9223372036854775807) (w : World) (htab : Lib.TabIs Tryz.prog w powName .u64 Lib.pow10Tab) :
    Calls Tryz.prog 140 #[.int .i64 n] w fun e w' => e = .returned (.string ⟨(Lib.itoa n).toArray⟩) ∧ ∃ k os, w' = grow (w.drewN k) os := Any.strconv_Itoa Tryz.laysM171 n h0 h1 w htab
def Tryz.laysC172_ren : Go.Shelf.Ren := ⟨fun | 172 => 146 | 244 => 164 | 245 => 165 | 247 => 184 | 279 => 185 | 280 => 186 | 281 => 187 | 282 => 188 | 287 => 201 | 316 => 202 | 171 => 140 | 205 => 203 | 321 => 209 | 322 => 210 | 243 => 161 | 246 => 179 | 283 => 195 | 284 => 196 | 285 => 197 | 286 => 198 | 129 => 109 | 317 => 205 | 318 => 206 | 319 => 207 | 320 => 208 | 337 => 211 | 338 => 212 | n => n, fun | 9 => 9 | 3 => 3 | 75 => 97 | 76 => 99 | 4 => 4 | 5 => 5 | 167 => 170 | 37 => 91 | 0 => 0 | 85 => 171 | 2 => 2 | 168 => 173 | 53 => 135 | 175 => 185 | 46 => 88 | 210 => 189 | 127 => 136 | 145 => 197 | 143 => 195 | 21 => 21 | 171 => 179 | 173 => 181 | 212 => 192 | 51 => 133 | 20 => 20 | 213 => 193 | 232 => 198 | 233 => 199 | 80 => 102 | n => n, fun | 15 => 3 | 16 => 4 | 17 => 5 | 18 => 6 | 19 => 7 | n => n⟩
theorem Tryz.laysC172 : Go.Proofs.LaysC.n172 Tryz.prog Tryz.laysC172_ren := {
  mixed := by kernel_rfl
  f129 := Tryz.func109.trans (congrArg some (by kernel_rfl))
  f171 := Tryz.func140.trans (congrArg some (by kernel_rfl))
  f172 := Tryz.func146.trans (congrArg some (by kernel_rfl))
  f205 := Tryz.func203.trans (congrArg some (by kernel_rfl))
  f243 := Tryz.func161.trans (congrArg some (by kernel_rfl))
  f244 := Tryz.func164.trans (congrArg some (by kernel_rfl))
  f245 := Tryz.func165.trans (congrArg some (by kernel_rfl))
  f246 := Tryz.func179.trans (congrArg some (by kernel_rfl))
  f247 := Tryz.func184.trans (congrArg some (by kernel_rfl))
  f279 := Tryz.func185.trans (congrArg some (by kernel_rfl))
  f280 := Tryz.func186.trans (congrArg some (by kernel_rfl))
  f281 := Tryz.func187.trans (congrArg some (by kernel_rfl))
  f282 := Tryz.func188.trans (congrArg some (by kernel_rfl))
  f283 := Tryz.func195.trans (congrArg some (by kernel_rfl))
  f284 := Tryz.func196.trans (congrArg some (by kernel_rfl))
  f285 := Tryz.func197.trans (congrArg some (by kernel_rfl))
  f286 := Tryz.func198.trans (congrArg some (by kernel_rfl))
  f287 := Tryz.func201.trans (congrArg some (by kernel_rfl))
  f316 := Tryz.func202.trans (congrArg some (by kernel_rfl))
  f317 := Tryz.func205.trans (congrArg some (by kernel_rfl))
  f318 := Tryz.func206.trans (congrArg some (by kernel_rfl))
  f319 := Tryz.func207.trans (congrArg some (by kernel_rfl))
  f320 := Tryz.func208.trans (congrArg some (by kernel_rfl))
  f321 := Tryz.func209.trans (congrArg some (by kernel_rfl))
  f322 := Tryz.func210.trans (congrArg some (by kernel_rfl))
  f337 := Tryz.func211.trans (congrArg some (by kernel_rfl))
  f338 := Tryz.func212.trans (congrArg some (by kernel_rfl))
  t0 := Tryz.underlying0
  a0 := Tryz.isAgg0
  z0 := Tryz.sizeOf0
  v0 := Tryz.zeroValue0
  t2 := Tryz.underlying2
  a2 := Tryz.isAgg2
  z2 := Tryz.sizeOf2
  v2 := Tryz.zeroValue2
  t3 := Tryz.underlying3
  a3 := Tryz.isAgg3
  z3 := Tryz.sizeOf3
  v3 := Tryz.zeroValue3
  t4 := Tryz.underlying4
  a4 := Tryz.isAgg4
  z4 := Tryz.sizeOf4
  v4 := Tryz.zeroValue4
  t5 := Tryz.underlying5
  a5 := Tryz.isAgg5
  z5 := Tryz.sizeOf5
  v5 := Tryz.zeroValue5
  t9 := Tryz.underlying9
  a9 := Tryz.isAgg9
  z9 := Tryz.sizeOf9
  v9 := Tryz.zeroValue9
  t20 := Tryz.underlying20
  a20 := Tryz.isAgg20
  z20 := Tryz.sizeOf20
  v20 := Tryz.zeroValue20
  t21 := Tryz.underlying21
  a21 := Tryz.isAgg21
  z21 := Tryz.sizeOf21
  v21 := Tryz.zeroValue21
  t37 := Tryz.underlying91
  a37 := Tryz.isAgg91
  z37 := Tryz.sizeOf91
  v37 := Tryz.zeroValue91
  t46 := Tryz.underlying88
  a46 := Tryz.isAgg88
  z46 := Tryz.sizeOf88
  v46 := Tryz.zeroValue88
  t51 := Tryz.underlying133
  a51 := Tryz.isAgg133
  z51 := Tryz.sizeOf133
  v51 := Tryz.zeroValue133
  t53 := Tryz.underlying135
  a53 := Tryz.isAgg135
  z53 := Tryz.sizeOf135
  v53 := Tryz.zeroValue135
  t75 := Tryz.underlying97
  a75 := Tryz.isAgg97
  z75 := Tryz.sizeOf97
  v75 := Tryz.zeroValue97
  t76 := Tryz.underlying99
  a76 := Tryz.isAgg99
  z76 := Tryz.sizeOf99
  v76 := Tryz.zeroValue99
  t85 := Tryz.underlying171
  a85 := Tryz.isAgg171
  z85 := Tryz.sizeOf171
  v85 := Tryz.zeroValue171
  t127 := Tryz.underlying136
  a127 := Tryz.isAgg136
  z127 := Tryz.sizeOf136
  v127 := Tryz.zeroValue136
  t143 := Tryz.underlying195
  a143 := Tryz.isAgg195
  z143 := Tryz.sizeOf195
  v143 := Tryz.zeroValue195
  t145 := Tryz.underlying197
  a145 := Tryz.isAgg197
  z145 := Tryz.sizeOf197
  v145 := Tryz.zeroValue197
  t167 := Tryz.underlying170
  a167 := Tryz.isAgg170
  z167 := Tryz.sizeOf170
  v167 := Tryz.zeroValue170
  t168 := Tryz.underlying173
  a168 := Tryz.isAgg173
  z168 := Tryz.sizeOf173
  v168 := Tryz.zeroValue173
  t171 := Tryz.underlying179
  a171 := Tryz.isAgg179
  z171 := Tryz.sizeOf179
  v171 := Tryz.zeroValue179
  t173 := Tryz.underlying181
  a173 := Tryz.isAgg181
  z173 := Tryz.sizeOf181
  v173 := Tryz.zeroValue181
  t175 := Tryz.underlying185
  a175 := Tryz.isAgg185
  z175 := Tryz.sizeOf185
  v175 := Tryz.zeroValue185
  t210 := Tryz.underlying189
  a210 := Tryz.isAgg189
  z210 := Tryz.sizeOf189
  v210 := Tryz.zeroValue189
  t212 := Tryz.underlying192
  a212 := Tryz.isAgg192
  z212 := Tryz.sizeOf192
  v212 := Tryz.zeroValue192
  t213 := Tryz.underlying193
  a213 := Tryz.isAgg193
  z213 := Tryz.sizeOf193
  t232 := Tryz.underlying198
  a232 := Tryz.isAgg198
  z232 := Tryz.sizeOf198
  v232 := Tryz.zeroValue198
  t233 := Tryz.underlying199
  a233 := Tryz.isAgg199
  z233 := Tryz.sizeOf199
  v233 := Tryz.zeroValue199
  g15 := by kernel_rfl
  g16 := by kernel_rfl
  g17 := by kernel_rfl
  g18 := by kernel_rfl
  g19 := by kernel_rfl
  t80 := Tryz.underlying102
  a80 := Tryz.isAgg102
  z80 := Tryz.sizeOf102
  v80 := Tryz.zeroValue102
  i0 := by kernel_rfl
  i2 := by kernel_rfl
  i3 := by kernel_rfl
  i4 := by kernel_rfl
  i5 := by kernel_rfl
  i9 := by kernel_rfl
  i20 := by kernel_rfl
  i21 := by kernel_rfl
  i37 := by kernel_rfl
  i46 := by kernel_rfl
  i51 := by kernel_rfl
  i53 := by kernel_rfl
  i75 := by kernel_rfl
  i76 := by kernel_rfl
  i80 := by kernel_rfl
  i85 := by kernel_rfl
  i127 := by kernel_rfl
  i143 := by kernel_rfl
  i145 := by kernel_rfl
  i167 := by kernel_rfl
  i168 := by kernel_rfl
  i171 := by kernel_rfl
  i173 := by kernel_rfl
  i175 := by kernel_rfl
  i210 := by kernel_rfl
  i212 := by kernel_rfl
  i232 := by kernel_rfl
  i233 := by kernel_rfl
  m15 := by kernel_rfl
  m16 := by kernel_rfl
  m17 := by kernel_rfl
  m18 := by kernel_rfl
  m19 := by kernel_rfl
  c0 := by kernel_rfl
  c2 := by kernel_rfl
  c3 := by kernel_rfl
  c4 := by kernel_rfl
  c5 := by kernel_rfl
  c9 := by kernel_rfl
  c20 := by kernel_rfl
  c21 := by kernel_rfl
  c37 := by kernel_rfl
  c46 := by kernel_rfl
  c51 := by kernel_rfl
  c53 := by kernel_rfl
  c75 := by kernel_rfl
  c76 := by kernel_rfl
  c80 := by kernel_rfl
  c85 := by kernel_rfl
  c127 := by kernel_rfl
  c143 := by kernel_rfl
  c145 := by kernel_rfl
  c167 := by kernel_rfl
  c168 := by kernel_rfl
  c171 := by kernel_rfl
  c173 := by kernel_rfl
  c175 := by kernel_rfl
  c210 := by kernel_rfl
  c212 := by kernel_rfl
  c213 := by kernel_rfl
  c232 := by kernel_rfl
  c233 := by kernel_rfl }
theorem Tryz.strconv_Atoi_ok (s : ByteArray) (hmax : s.size ≤ 9223372036854775806) (v : Int) (h : Lib.atoiAll s.data.toList = .ok v) (w : World) :
    Calls Tryz.prog 146 #[.string s] w fun e w' => e = .returned (.tuple #[.int .i64 v, .nilIface]) ∧ (w' = w ∨ ∃ t, w' = Lib.bytesWorld w 5 t) := Any.strconv_Atoi_ok Tryz.laysC172 s hmax v h w
theorem Tryz.strconv_Atoi_range_var (s : ByteArray) (hlim : s.size ≤ 281474976710656) (h : Lib.atoiAll s.data.toList = .range) (tp : TypeId) (p : Value) (w : World) (hvar : w.var? Tryz.prog "strconv.ErrRange" = some #[.iface tp p]) :
    Calls Tryz.prog 146 #[.string s] w fun e w' => ∃ N, e = .returned (.tuple #[.int .i64 (Lib.atoiSat s.data.toList), .iface 173 (.pointer (some ⟨N, 0, none⟩))]) ∧ w.heap.size ≤ N ∧ w'.heap[N]? = some (.cells #[.string ⟨#[65, 116, 111, 105]⟩, .string s, .iface tp p] 189 (0, 0)) ∧ Below w.heap.size w w' := Any.strconv_Atoi_range_var Tryz.laysC172 s hlim h tp p w hvar
def Tryz.lays144_ren : Go.Shelf.Ren := ⟨fun | 144 => 112 | 143 => 141 | 219 => 162 | 217 => 180 | 225 => 181 | 224 => 182 | 267 => 183 | 266 => 199 | 314 => 200 | n => n, fun | 9 => 9 | 4 => 4 | 3 => 3 | 5 => 5 | 46 => 88 | 146 => 183 | 51 => 133 | n => n, fun | 1 => 1 | n => n⟩
theorem Tryz.lays144 : Go.Proofs.Lays.n144 Tryz.prog Tryz.lays144_ren := {
  mixed := by kernel_rfl
  f143 := Tryz.func141.trans (congrArg some (by kernel_rfl))
  f144 := Tryz.func112.trans (congrArg some (by kernel_rfl))
  f217 := Tryz.func180.trans (congrArg some (by kernel_rfl))
  f219 := Tryz.func162.trans (congrArg some (by kernel_rfl))
  f224 := Tryz.func182.trans (congrArg some (by kernel_rfl))
  f225 := Tryz.func181.trans (congrArg some (by kernel_rfl))
  f266 := Tryz.func199.trans (congrArg some (by kernel_rfl))
  f267 := Tryz.func183.trans (congrArg some (by kernel_rfl))
  f314 := Tryz.func200.trans (congrArg some (by kernel_rfl))
  t3 := Tryz.underlying3
  a3 := Tryz.isAgg3
  z3 := Tryz.sizeOf3
  v3 := Tryz.zeroValue3
  t4 := Tryz.underlying4
  a4 := Tryz.isAgg4
  z4 := Tryz.sizeOf4
  v4 := Tryz.zeroValue4
  t5 := Tryz.underlying5
  a5 := Tryz.isAgg5
  z5 := Tryz.sizeOf5
  v5 := Tryz.zeroValue5
  t9 := Tryz.underlying9
  a9 := Tryz.isAgg9
  z9 := Tryz.sizeOf9
  v9 := Tryz.zeroValue9
  t46 := Tryz.underlying88
  a46 := Tryz.isAgg88
  z46 := Tryz.sizeOf88
  v46 := Tryz.zeroValue88
  t51 := Tryz.underlying133
  a51 := Tryz.isAgg133
  z51 := Tryz.sizeOf133
  v51 := Tryz.zeroValue133
  t146 := Tryz.underlying183
  a146 := Tryz.isAgg183
  z146 := Tryz.sizeOf183
  v146 := Tryz.zeroValue183
  g1 := by kernel_rfl }
theorem Tryz.strings_Contains_one (s : ByteArray) (c : UInt8) (w : World) :
    Calls Tryz.prog 112 #[.string s, .string ⟨#[c]⟩] w fun e w' => e = .returned (.bool (decide (0 ≤ Lib.indexByte s.data.toList c))) ∧ w' = w := Any.strings_Contains_one Tryz.lays144 s c w
def Tryz.lays190_ren : Go.Shelf.Ren := ⟨fun | 190 => 44 | 125 => 61 | 258 => 60 | 128 => 108 | 129 => 109 | 302 => 99 | 303 => 100 | 304 => 101 | 305 => 102 | 306 => 103 | 307 => 104 | 308 => 105 | 309 => 106 | 310 => 107 | 333 => 131 | 329 => 132 | 330 => 133 | 334 => 134 | 335 => 135 | 336 => 136 | 344 => 158 | n => n, fun | 31 => 22 | 9 => 9 | 3 => 3 | 46 => 88 | 0 => 0 | 51 => 133 | 53 => 135 | 4 => 4 | 183 => 126 | 182 => 125 | 131 => 115 | 5 => 5 | 218 => 145 | 222 => 149 | 228 => 160 | 229 => 161 | n => n, fun | n => n⟩
theorem Tryz.lays190 : Go.Proofs.Lays.n190 Tryz.prog Tryz.lays190_ren := {
  mixed := by kernel_rfl
  f125 := Tryz.func61.trans (congrArg some (by kernel_rfl))
  f128 := Tryz.func108.trans (congrArg some (by kernel_rfl))
  f129 := Tryz.func109.trans (congrArg some (by kernel_rfl))
  f190 := Tryz.func44.trans (congrArg some (by kernel_rfl))
  f258 := Tryz.func60.trans (congrArg some (by kernel_rfl))
  f302 := Tryz.func99.trans (congrArg some (by kernel_rfl))
  f303 := Tryz.func100.trans (congrArg some (by kernel_rfl))
  f304 := Tryz.func101.trans (congrArg some (by kernel_rfl))
  f305 := Tryz.func102.trans (congrArg some (by kernel_rfl))
  f306 := Tryz.func103.trans (congrArg some (by kernel_rfl))
  f307 := Tryz.func104.trans (congrArg some (by kernel_rfl))
  f308 := Tryz.func105.trans (congrArg some (by kernel_rfl))
  f309 := Tryz.func106.trans (congrArg some (by kernel_rfl))
  f310 := Tryz.func107.trans (congrArg some (by kernel_rfl))
  f329 := Tryz.func132.trans (congrArg some (by kernel_rfl))
  f330 := Tryz.func133.trans (congrArg some (by kernel_rfl))
  f333 := Tryz.func131.trans (congrArg some (by kernel_rfl))
  f334 := Tryz.func134.trans (congrArg some (by kernel_rfl))
  f335 := Tryz.func135.trans (congrArg some (by kernel_rfl))
  f336 := Tryz.func136.trans (congrArg some (by kernel_rfl))
  f344 := Tryz.func158.trans (congrArg some (by kernel_rfl))
  t0 := Tryz.underlying0
  a0 := Tryz.isAgg0
  z0 := Tryz.sizeOf0
  v0 := Tryz.zeroValue0
  t3 := Tryz.underlying3
  a3 := Tryz.isAgg3
  z3 := Tryz.sizeOf3
  v3 := Tryz.zeroValue3
  t4 := Tryz.underlying4
  a4 := Tryz.isAgg4
  z4 := Tryz.sizeOf4
  v4 := Tryz.zeroValue4
  t5 := Tryz.underlying5
  a5 := Tryz.isAgg5
  z5 := Tryz.sizeOf5
  v5 := Tryz.zeroValue5
  t9 := Tryz.underlying9
  a9 := Tryz.isAgg9
  z9 := Tryz.sizeOf9
  v9 := Tryz.zeroValue9
  t31 := Tryz.underlying22
  a31 := Tryz.isAgg22
  z31 := Tryz.sizeOf22
  v31 := Tryz.zeroValue22
  t46 := Tryz.underlying88
  a46 := Tryz.isAgg88
  z46 := Tryz.sizeOf88
  v46 := Tryz.zeroValue88
  t51 := Tryz.underlying133
  a51 := Tryz.isAgg133
  z51 := Tryz.sizeOf133
  v51 := Tryz.zeroValue133
  t53 := Tryz.underlying135
  a53 := Tryz.isAgg135
  z53 := Tryz.sizeOf135
  v53 := Tryz.zeroValue135
  t131 := Tryz.underlying115
  a131 := Tryz.isAgg115
  z131 := Tryz.sizeOf115
  v131 := Tryz.zeroValue115
  t182 := Tryz.underlying125
  a182 := Tryz.isAgg125
  z182 := Tryz.sizeOf125
  v182 := Tryz.zeroValue125
  t183 := Tryz.underlying126
  a183 := Tryz.isAgg126
  z183 := Tryz.sizeOf126
  v183 := Tryz.zeroValue126
  t218 := Tryz.underlying145
  a218 := Tryz.isAgg145
  z218 := Tryz.sizeOf145
  v218 := Tryz.zeroValue145
  t222 := Tryz.underlying149
  a222 := Tryz.isAgg149
  z222 := Tryz.sizeOf149
  v222 := Tryz.zeroValue149
  t228 := Tryz.underlying160
  a228 := Tryz.isAgg160
  z228 := Tryz.sizeOf160
  v228 := Tryz.zeroValue160
  t229 := Tryz.underlying161
  a229 := Tryz.isAgg161
  z229 := Tryz.sizeOf161
  v229 := Tryz.zeroValue161 }
open Go.Sort Go.RowKit in
theorem Tryz.slices_Sort_string (blk off cap : Nat) (ss : List (List UInt8)) (w : World) (hH : Holds encStr w blk off ss.toArray) (hblk : blk < w.heap.size) (hsz : ss.length < 4611686018427387904) :
    Calls Tryz.prog 44 #[.slice (some ⟨blk, off, none⟩) ss.length cap] w fun e w' =>
      e = .returned (.tuple #[]) ∧ ∃ n os, w' = grow (putRow encStr (Sort.ahead w n) blk off (ss.mergeSort fun x y => decide (x ≤ y)).toArray) os := Any.slices_Sort_string Tryz.lays190 blk off cap ss w hH hblk hsz
def Tryz.lays110_ren : Go.Shelf.Ren := ⟨fun | 110 => 129 | 109 => 157 | n => n, fun | 31 => 22 | 9 => 9 | 4 => 4 | 3 => 3 | 0 => 0 | n => n, fun | n => n⟩
theorem Tryz.lays110 : Go.Proofs.Lays.n110 Tryz.prog Tryz.lays110_ren := {
  mixed := by kernel_rfl
  f109 := Tryz.func157.trans (congrArg some (by kernel_rfl))
  f110 := Tryz.func129.trans (congrArg some (by kernel_rfl))
  t0 := Tryz.underlying0
  a0 := Tryz.isAgg0
  z0 := Tryz.sizeOf0
  v0 := Tryz.zeroValue0
  t3 := Tryz.underlying3
  a3 := Tryz.isAgg3
  z3 := Tryz.sizeOf3
  v3 := Tryz.zeroValue3
  t4 := Tryz.underlying4
  a4 := Tryz.isAgg4
  z4 := Tryz.sizeOf4
  v4 := Tryz.zeroValue4
  t9 := Tryz.underlying9
  a9 := Tryz.isAgg9
  z9 := Tryz.sizeOf9
  v9 := Tryz.zeroValue9
  t31 := Tryz.underlying22
  a31 := Tryz.isAgg22
  z31 := Tryz.sizeOf22
  v31 := Tryz.zeroValue22 }
open Go.Lib in
theorem Tryz.slices_Contains_string (b off n c : Nat) (zs : List ByteArray) (x : ByteArray) (w : World) (hz : n ≤ zs.length) (hbig : n ≤ 9223372036854775807) (hc : ∀ j, j < zs.length → w.cell? ⟨b, off + j, none⟩ = some (.string (zs.getD j ByteArray.empty))) :
    Calls Tryz.prog 129 #[.slice (some ⟨b, off, none⟩) n c, .string x] w fun e w' => e = .returned (.bool (Lib.containsS (zs.take n) x)) ∧ w' = w := Any.slices_Contains_string Tryz.lays110 b off n c zs x w hz hbig hc
open Go.Lib in
theorem Tryz.slices_Contains_string_empty (a : Option Addr) (c : Nat) (x : ByteArray) (w : World) :
    Calls Tryz.prog 129 #[.slice a 0 c, .string x] w fun e w' => e = .returned (.bool false) ∧ w' = w := Any.slices_Contains_string_empty Tryz.lays110 a c x w
def Tryz.lays193_ren : Go.Shelf.Ren := ⟨fun | 193 => 41 | n => n, fun | 31 => 22 | 9 => 9 | 4 => 4 | 3 => 3 | 0 => 0 | n => n, fun | n => n⟩
theorem Tryz.lays193 : Go.Proofs.Lays.n193 Tryz.prog Tryz.lays193_ren := {
  mixed := by kernel_rfl
  f193 := Tryz.func41.trans (congrArg some (by kernel_rfl))
  t0 := Tryz.underlying0
  a0 := Tryz.isAgg0
  z0 := Tryz.sizeOf0
  v0 := Tryz.zeroValue0
  t3 := Tryz.underlying3
  a3 := Tryz.isAgg3
  z3 := Tryz.sizeOf3
  v3 := Tryz.zeroValue3
  t4 := Tryz.underlying4
  a4 := Tryz.isAgg4
  z4 := Tryz.sizeOf4
  v4 := Tryz.zeroValue4
  t9 := Tryz.underlying9
  a9 := Tryz.isAgg9
  z9 := Tryz.sizeOf9
  v9 := Tryz.zeroValue9
  t31 := Tryz.underlying22
  a31 := Tryz.isAgg22
  z31 := Tryz.sizeOf22
  v31 := Tryz.zeroValue22 }
theorem Tryz.slices_Equal_string (b1 o1 n c b2 o2 m d : Nat) (xs ys : List ByteArray) (w : World) (hx : n ≤ xs.length) (hy : m ≤ ys.length) (hbig : n ≤ 9223372036854775807) (hbig2 : m ≤ 9223372036854775807) (hc1 : ∀ j, j < xs.length → w.cell? ⟨b1, o1 + j, none⟩ = some (.string (xs.getD j ByteArray.empty))) (hc2 : ∀ j, j < ys.length → w.cell? ⟨b2, o2 + j, none⟩ = some (.string (ys.getD j ByteArray.empty))) :
    Calls Tryz.prog 41 #[.slice (some ⟨b1, o1, none⟩) n c, .slice (some ⟨b2, o2, none⟩) m d] w fun e w' => e = .returned (.bool (decide (xs.take n = ys.take m))) ∧ ∃ q, w' = w.drewN q := Any.slices_Equal_string Tryz.lays193 b1 o1 n c b2 o2 m d xs ys w hx hy hbig hbig2 hc1 hc2
theorem Tryz.slices_Equal_string_empty (a1 a2 : Option Addr) (c m d : Nat) (w : World) (hbig2 : m ≤ 9223372036854775807) :
    Calls Tryz.prog 41 #[.slice a1 0 c, .slice a2 m d] w fun e w' => e = .returned (.bool (decide (m = 0))) ∧ w' = w := Any.slices_Equal_string_empty Tryz.lays193 a1 a2 c m d w hbig2
def Tryz.lays194_ren : Go.Shelf.Ren := ⟨fun | 194 => 45 | n => n, fun | 31 => 22 | 9 => 9 | 3 => 3 | 4 => 4 | 0 => 0 | n => n, fun | n => n⟩
theorem Tryz.lays194 : Go.Proofs.Lays.n194 Tryz.prog Tryz.lays194_ren := {
  mixed := by kernel_rfl
  f194 := Tryz.func45.trans (congrArg some (by kernel_rfl))
  t0 := Tryz.underlying0
  a0 := Tryz.isAgg0
  z0 := Tryz.sizeOf0
  v0 := Tryz.zeroValue0
  t3 := Tryz.underlying3
  a3 := Tryz.isAgg3
  z3 := Tryz.sizeOf3
  v3 := Tryz.zeroValue3
  t4 := Tryz.underlying4
  a4 := Tryz.isAgg4
  z4 := Tryz.sizeOf4
  v4 := Tryz.zeroValue4
  t9 := Tryz.underlying9
  a9 := Tryz.isAgg9
  z9 := Tryz.sizeOf9
  v9 := Tryz.zeroValue9
  t31 := Tryz.underlying22
  a31 := Tryz.isAgg22
  z31 := Tryz.sizeOf22
  v31 := Tryz.zeroValue22 }
theorem Tryz.slices_Compact_string (blk off cap : Nat) (zs : List (List UInt8)) (w : World) (hH : Holds encStr w blk off zs.toArray) (hsz : zs.length ≤ 9223372036854775807) (hcap : zs.length ≤ cap) :
    Calls Tryz.prog 45 #[.slice (some ⟨blk, off, none⟩) zs.length cap] w fun e w' => e = .returned (.slice (some ⟨blk, off, none⟩) (Lib.compact zs).length cap) ∧ ∃ q, w' = putRow encStr (Sort.ahead w q) blk off (Lib.compact zs ++ List.replicate (zs.length - (Lib.compact zs).length) []).toArray := Any.slices_Compact_string Tryz.lays194 blk off cap zs w hH hsz hcap
theorem Tryz.slices_Compact_string_empty (a : Option Addr) (cap : Nat) (w : World) :
    Calls Tryz.prog 45 #[.slice a 0 cap] w fun e w' => e = .returned (.slice a 0 cap) ∧ w' = w := Any.slices_Compact_string_empty Tryz.lays194 a cap w
theorem Tryz.slices_Sort_string_none (p : Option Addr) (cap : Nat) (w : World) :
    Calls Tryz.prog 44 #[.slice p 0 cap] w fun e w' => e = .returned (.tuple #[]) ∧ w' = w := Any.slices_Sort_string_none Tryz.lays190 p cap w
theorem Tryz.slices_Equal_string_lens (a1 a2 : Option Addr) (n c m d : Nat) (w : World) (hnm : n ≠ m) :
    Calls Tryz.prog 41 #[.slice a1 n c, .slice a2 m d] w fun e w' => e = .returned (.bool false) ∧ w' = w := Any.slices_Equal_string_lens Tryz.lays193 a1 a2 n c m d w hnm
end Go.Proofs
namespace Go.Proofs.YtjmipikahaoblaaGreatDoor.Lx
open Go.RowKit Go.Lib Go.Proofs.YtjmipikahaoblaaGreatDoor.Bas Go.Proofs.YtjmipikahaoblaaGreatDoor.Cal
set_option linter.unusedVariables false

theorem mark_len (l : List UInt8) (h : l.length ≠ 1) : markB l = false := by
  unfold markB
  apply decide_eq_false
  rintro (h2 | h2 | h2 | h2 | h2) <;> rw [h2] at h <;> exact h rfl
theorem mark_one (c : UInt8) : decide (0 ≤ Lib.indexByte [59, 58, 44, 40, 41] c) = markB [c] := by
  have h : ∀ n, n < 256 → decide (0 ≤ Lib.indexByte [59, 58, 44, 40, 41] (UInt8.ofNat n)) = markB [UInt8.ofNat n] := by decide +kernel
  have := h c.toNat (UInt8.toNat_lt c)
  rwa [UInt8.ofNat_toNat] at this
theorem bl_one (s : ByteArray) (h : s.size = 1) : ∃ c, s = { data := #[c] } ∧ bl s = [c] := by
  have h2 := bl_size s
  rw [h] at h2
  match hb : bl s, h2 with
  | [c], _ => exact ⟨c, by rw [← tx_bl s, hb]; rfl, rfl⟩
theorem isMark_any (s : ByteArray) (w : World) : Calls Tryz.prog 64 #[.string s] w (BoolSame (markB (bl s)) w) := by
  by_cases h : s.size = 1
  · obtain ⟨c, rfl, hb⟩ := bl_one s h
    rw [hb, ← mark_one]
    have k := Lib.hid (Tryz.strings_Contains_one { data := #[59, 58, 44, 40, 41] } c w)
    rw [show ({ data := #[59, 58, 44, 40, 41] } : ByteArray).data.toList = [59, 58, 44, 40, 41] from rfl] at k
    generalize decide (0 ≤ Lib.indexByte [59, 58, 44, 40, 41] c) = b at *
    clear h hb
    go_enter Tryz.func64, Tryz.ntmps64
    go_wp2_with (go_at_call 112; refine k.out.mono ?_; rintro e w' ⟨rfl, rfl⟩)
    go_ret
    exact ⟨rfl, rfl⟩
  · rw [mark_len (bl s) (by rw [bl_size]; exact h)]
    have t : ((s.size : Int) == 1) = false := by simp; omega
    clear h
    go_enter Tryz.func64, Tryz.ntmps64
    go_wp2_with fail
    go_ret
    exact ⟨rfl, rfl⟩
theorem isAmount_any (n : Int) (w : World) : Calls Tryz.prog 139 #[.int .i64 n] w (BoolSame (decide (-17592186044416 ≤ n ∧ n ≤ 17592186044416)) w) := by
  by_cases h1 : -17592186044416 ≤ n
  · have t1 : decide (-17592186044416 ≤ n) = true := decide_eq_true h1
    by_cases h2 : n ≤ 17592186044416
    · have t2 : decide (n ≤ 17592186044416) = true := decide_eq_true h2
      rw [decide_eq_true ⟨h1, h2⟩]
      clear h1 h2
      go_enter Tryz.func139, Tryz.ntmps139
      go_wp2_with fail
      go_ret
      exact ⟨rfl, rfl⟩
    · have t2 : decide (n ≤ 17592186044416) = false := decide_eq_false h2
      rw [decide_eq_false (fun h => h2 h.2)]
      clear h1 h2
      go_enter Tryz.func139, Tryz.ntmps139
      go_wp2_with fail
      go_ret
      exact ⟨rfl, rfl⟩
  · have t1 : decide (-17592186044416 ≤ n) = false := decide_eq_false h1
    rw [decide_eq_false (fun h => h1 h.1)]
    clear h1
    go_enter Tryz.func139, Tryz.ntmps139
    go_wp2_with fail
    go_ret
    exact ⟨rfl, rfl⟩
end Go.Proofs.YtjmipikahaoblaaGreatDoor.Lx
namespace Go.Proofs.YtjmipikahaoblaaGreatDoor.Cal
set_option linter.unusedVariables false

def lp (y : Int) : Int := if y % 4 = 0 then 1 else 0
def tbl (m : Int) : Int := if m ≤ 1 then 0 else if m = 2 then 31 else if m = 3 then 59 else if m = 4 then 90 else if m = 5 then 120 else if m = 6 then 151 else if m = 7 then 181 else if m = 8 then 212 else
  if m = 9 then 243 else if m = 10 then 273 else if m = 11 then 304 else if m = 12 then 334 else 365
/-- The days of a month. -/
def md (y m : Int) : Int := if m = 2 then 28 + lp y else if m = 4 ∨ m = 6 ∨ m = 9 ∨ m = 11 then 30 else 31
/-- The days of the year before a month. -/
def cum (y m : Int) : Int := tbl m + if 2 < m then lp y else 0
/-- The days before a year. -/
def dby (y : Int) : Int := ((y - 2000) * 1461 + 3) / 4
def num (y m d : Int) : Int := dby y + cum y m + d - 1
def okD (y m d : Int) : Prop := 2000 ≤ y ∧ y ≤ 2099 ∧ 1 ≤ m ∧ m ≤ 12 ∧ 1 ≤ d ∧ d ≤ md y m
instance (y m d : Int) : Decidable (okD y m d) := by unfold okD; infer_instance
def yr (N : Int) : Int := 2000 + N * 4 / 1461
def moR (y r : Int) : Int := if r < cum y 2 then 1 else if r < cum y 3 then 2 else if r < cum y 4 then 3 else if r < cum y 5 then 4 else if r < cum y 6 then 5 else if r < cum y 7 then 6 else if r < cum y 8 then 7 else
  if r < cum y 9 then 8 else if r < cum y 10 then 9 else if r < cum y 11 then 10 else if r < cum y 12 then 11 else 12
def mo (N : Int) : Int := moR (yr N) (N - dby (yr N))
def da (N : Int) : Int := N - dby (yr N) - cum (yr N) (mo N) + 1

theorem lp_01 (y : Int) : 0 ≤ lp y ∧ lp y ≤ 1 := by unfold lp; split <;> omega
theorem months {m : Int} (h1 : 1 ≤ m) (h2 : m ≤ 12) : m = 1 ∨ m = 2 ∨ m = 3 ∨ m = 4 ∨ m = 5 ∨ m = 6 ∨ m = 7 ∨ m = 8 ∨ m = 9 ∨ m = 10 ∨ m = 11 ∨ m = 12 := by omega
theorem md_bd (y m : Int) : 28 ≤ md y m ∧ md y m ≤ 31 := by
  have := lp_01 y
  unfold md; split
  · omega
  · split <;> omega
theorem cum_succ (y m : Int) (h1 : 1 ≤ m) (h2 : m ≤ 12) : cum y (m + 1) = cum y m + md y m := by
  rcases months h1 h2 with h | h | h | h | h | h | h | h | h | h | h | h <;> subst h <;> simp [cum, tbl, md] <;> omega
theorem cum_one (y : Int) : cum y 1 = 0 := by simp [cum, tbl]
theorem cum_end (y : Int) : cum y 13 = 365 + lp y := by simp [cum, tbl]
theorem cum_bd (y m : Int) (h1 : 1 ≤ m) (h2 : m ≤ 12) : 0 ≤ cum y m ∧ cum y m ≤ 335 := by
  have := lp_01 y
  rcases months h1 h2 with h | h | h | h | h | h | h | h | h | h | h | h <;> subst h <;> simp [cum, tbl] <;> omega
theorem cum_le_end (y m : Int) (h1 : 1 ≤ m) (h2 : m ≤ 12) : cum y m + md y m ≤ 365 + lp y := by
  have := lp_01 y
  rcases months h1 h2 with h | h | h | h | h | h | h | h | h | h | h | h <;> subst h <;> simp [cum, tbl, md] <;> omega
theorem dby_succ (y : Int) : dby (y + 1) = dby y + 365 + lp y := by
  obtain ⟨q, r, h, r0, r4⟩ : ∃ q r : Int, y = 2000 + 4 * q + r ∧ 0 ≤ r ∧ r ≤ 3 := ⟨(y - 2000) / 4, (y - 2000) % 4, by omega, by omega, by omega⟩
  have hr : r = 0 ∨ r = 1 ∨ r = 2 ∨ r = 3 := by omega
  unfold dby lp
  rcases hr with e | e | e | e <;> subst e <;> subst h
  · rw [if_pos (by omega)]; omega
  all_goals rw [if_neg (by omega)]; omega
theorem dby_mono (a b : Int) (h : a ≤ b) : dby a ≤ dby b := by unfold dby; omega
theorem dby_lo : dby 2000 = 0 := by unfold dby; omega
theorem dby_hi : dby 2100 = 36525 := by unfold dby; omega
theorem dby_bd (y : Int) (h1 : 2000 ≤ y) (h2 : y ≤ 2099) : 0 ≤ dby y ∧ dby y ≤ 36160 := by unfold dby; omega
theorem yr_bd (N : Int) (h1 : 0 ≤ N) (h2 : N ≤ 36524) : 2000 ≤ yr N ∧ yr N ≤ 2099 := by unfold yr; omega
theorem yr_lo (N : Int) : dby (yr N) ≤ N := by unfold yr dby; omega
theorem yr_hi (N : Int) : N < dby (yr N + 1) := by unfold yr dby; omega
theorem yr_of (y N : Int) (h1 : dby y ≤ N) (h2 : N < dby (y + 1)) : yr N = y := by
  unfold dby at *; unfold yr; omega
theorem cums (y : Int) : cum y 1 = 0 ∧ cum y 2 = 31 ∧ cum y 3 = 59 + lp y ∧ cum y 4 = 90 + lp y ∧ cum y 5 = 120 + lp y ∧ cum y 6 = 151 + lp y ∧ cum y 7 = 181 + lp y ∧ cum y 8 = 212 + lp y ∧ cum y 9 = 243 + lp y ∧ cum y 10 = 273 + lp y ∧ cum y 11 = 304 + lp y ∧ cum y 12 = 334 + lp y := by
  simp [cum, tbl]
theorem moR_of (y m r : Int) (h1 : 1 ≤ m) (h2 : m ≤ 12) (h3 : cum y m ≤ r) (h4 : r < cum y m + md y m) : moR y r = m := by
  rw [← cum_succ y m h1 h2] at h4
  have hl := lp_01 y
  have he := cum_end y
  obtain ⟨c1, c2, c3, c4, c5, c6, c7, c8, c9, c10, c11, c12⟩ := cums y
  unfold moR
  rw [c2, c3, c4, c5, c6, c7, c8, c9, c10, c11, c12]
  generalize lp y = l at *
  rcases months h1 h2 with h | h | h | h | h | h | h | h | h | h | h | h <;> subst h
  · rw [show (1 : Int) + 1 = 2 from rfl, c2] at h4
    rw [c1] at h3
    clear c1 c2 c3 c4 c5 c6 c7 c8 c9 c10 c11 c12 he h1 h2
    rw [if_pos (by omega)]
  · rw [show (2 : Int) + 1 = 3 from rfl, c3] at h4
    rw [c2] at h3
    clear c1 c2 c3 c4 c5 c6 c7 c8 c9 c10 c11 c12 he h1 h2
    iterate 1 rw [if_neg (by omega)]
    rw [if_pos (by omega)]
  · rw [show (3 : Int) + 1 = 4 from rfl, c4] at h4
    rw [c3] at h3
    clear c1 c2 c3 c4 c5 c6 c7 c8 c9 c10 c11 c12 he h1 h2
    iterate 2 rw [if_neg (by omega)]
    rw [if_pos (by omega)]
  · rw [show (4 : Int) + 1 = 5 from rfl, c5] at h4
    rw [c4] at h3
    clear c1 c2 c3 c4 c5 c6 c7 c8 c9 c10 c11 c12 he h1 h2
    iterate 3 rw [if_neg (by omega)]
    rw [if_pos (by omega)]
  · rw [show (5 : Int) + 1 = 6 from rfl, c6] at h4
    rw [c5] at h3
    clear c1 c2 c3 c4 c5 c6 c7 c8 c9 c10 c11 c12 he h1 h2
    iterate 4 rw [if_neg (by omega)]
    rw [if_pos (by omega)]
  · rw [show (6 : Int) + 1 = 7 from rfl, c7] at h4
    rw [c6] at h3
    clear c1 c2 c3 c4 c5 c6 c7 c8 c9 c10 c11 c12 he h1 h2
    iterate 5 rw [if_neg (by omega)]
    rw [if_pos (by omega)]
  · rw [show (7 : Int) + 1 = 8 from rfl, c8] at h4
    rw [c7] at h3
    clear c1 c2 c3 c4 c5 c6 c7 c8 c9 c10 c11 c12 he h1 h2
    iterate 6 rw [if_neg (by omega)]
    rw [if_pos (by omega)]
  · rw [show (8 : Int) + 1 = 9 from rfl, c9] at h4
    rw [c8] at h3
    clear c1 c2 c3 c4 c5 c6 c7 c8 c9 c10 c11 c12 he h1 h2
    iterate 7 rw [if_neg (by omega)]
    rw [if_pos (by omega)]
  · rw [show (9 : Int) + 1 = 10 from rfl, c10] at h4
    rw [c9] at h3
    clear c1 c2 c3 c4 c5 c6 c7 c8 c9 c10 c11 c12 he h1 h2
    iterate 8 rw [if_neg (by omega)]
    rw [if_pos (by omega)]
  · rw [show (10 : Int) + 1 = 11 from rfl, c11] at h4
    rw [c10] at h3
    clear c1 c2 c3 c4 c5 c6 c7 c8 c9 c10 c11 c12 he h1 h2
    iterate 9 rw [if_neg (by omega)]
    rw [if_pos (by omega)]
  · rw [show (11 : Int) + 1 = 12 from rfl, c12] at h4
    rw [c11] at h3
    clear c1 c2 c3 c4 c5 c6 c7 c8 c9 c10 c11 c12 he h1 h2
    iterate 10 rw [if_neg (by omega)]
    rw [if_pos (by omega)]
  · rw [show (12 : Int) + 1 = 13 from rfl, he] at h4
    rw [c12] at h3
    clear c1 c2 c3 c4 c5 c6 c7 c8 c9 c10 c11 c12 he h1 h2
    iterate 11 rw [if_neg (by omega)]
theorem moR_ok (y r : Int) (h0 : 0 ≤ r) (h1 : r < 365 + lp y) : 1 ≤ moR y r ∧ moR y r ≤ 12 ∧ cum y (moR y r) ≤ r ∧ r < cum y (moR y r) + md y (moR y r) := by
  have key : ∃ m, 1 ≤ m ∧ m ≤ 12 ∧ cum y m ≤ r ∧ r < cum y m + md y m := by
    have go : ∀ n : Nat, n ≤ 12 → r < cum y ((n : Int) + 1) → ∃ m, 1 ≤ m ∧ m ≤ 12 ∧ cum y m ≤ r ∧ r < cum y m + md y m := by
      intro n
      induction n with
      | zero => intro _ h; have := cum_one y; simp at h; omega
      | succ n ih =>
        intro hn h
        by_cases hc : r < cum y ((n : Int) + 1)
        · exact ih (by omega) hc
        · have hs := cum_succ y ((n : Int) + 1) (by omega) (by omega)
          exact ⟨(n : Int) + 1, by omega, by omega, by omega, by rw [← hs]; push_cast at h; exact h⟩
    exact go 12 (by omega) (by have := cum_end y; show r < cum y 13; omega)
  obtain ⟨m, a, b, c, d⟩ := key
  rw [moR_of y m r a b c d]
  exact ⟨a, b, c, d⟩
/-- The day of a number is a day, with that number. -/
theorem civ_ok (N : Int) (h1 : 0 ≤ N) (h2 : N ≤ 36524) : okD (yr N) (mo N) (da N) ∧ num (yr N) (mo N) (da N) = N := by
  have b := yr_bd N h1 h2
  have l := yr_lo N
  have u := yr_hi N
  rw [dby_succ] at u
  have m := moR_ok (yr N) (N - dby (yr N)) (by omega) (by omega)
  unfold okD num da mo
  omega
/-- A day is the day of its number. -/
theorem civ_num (y m d : Int) (h : okD y m d) : yr (num y m d) = y ∧ mo (num y m d) = m ∧ da (num y m d) = d := by
  obtain ⟨a, b, c, e, f, g⟩ := h
  have hy : yr (num y m d) = y := by
    have h1 := cum_le_end y m c e
    have h2 := cum_bd y m c e
    refine yr_of _ _ ?_ ?_
    · unfold num; omega
    · rw [dby_succ]; unfold num; omega
  have hm : mo (num y m d) = m := by
    unfold mo; rw [hy]
    exact moR_of _ _ _ c e (by unfold num; omega) (by unfold num; omega)
  refine ⟨hy, hm, ?_⟩
  unfold da; rw [hm, hy]; unfold num; omega
theorem num_bd (y m d : Int) (h : okD y m d) : 0 ≤ num y m d ∧ num y m d ≤ 36524 := by
  obtain ⟨a, b, c, e, f, g⟩ := h
  have h1 := cum_le_end y m c e
  have h2 := cum_bd y m c e
  have h3 := dby_mono 2000 y a
  have h4 := dby_mono (y + 1) 2100 (by omega)
  rw [dby_succ] at h4
  rw [dby_lo] at h3
  rw [dby_hi] at h4
  unfold num; omega
/-- The civil day by its defining facts. -/
theorem civ_eq (N y m d : Int) (h : okD y m d) (hn : num y m d = N) : yr N = y ∧ mo N = m ∧ da N = d := by subst hn; exact civ_num y m d h

/-- The number of the month, from January 2000 on, n months after the hour's. -/
def mix (h n : Int) : Int := (yr (h / 24) - 2000) * 12 + mo (h / 24) - 1 + n
def mday (i d : Int) : Int := min d (md (2000 + i / 12) (i % 12 + 1))
/-- The same hour n months later. -/
def addH (h n : Int) : Int := 24 * num (2000 + mix h n / 12) (mix h n % 12 + 1) (mday (mix h n) (da (h / 24))) + h % 24
def addB (h n : Int) : Bool := decide (0 ≤ h ∧ h ≤ 876599 ∧ 0 ≤ mix h n ∧ mix h n < 1200)
def addV (h n : Int) : Int × Int := if addB h n then (addH h n, 0) else (0, 1)
theorem addB_iff (h n : Int) : addB h n = true ↔ 0 ≤ h ∧ h ≤ 876599 ∧ 0 ≤ mix h n ∧ mix h n < 1200 := by unfold addB; simp
theorem mday_ok (i d : Int) (h0 : 0 ≤ i) (h1 : i < 1200) (hd : 1 ≤ d) : okD (2000 + i / 12) (i % 12 + 1) (mday i d) := by
  have := md_bd (2000 + i / 12) (i % 12 + 1)
  unfold okD mday; omega
theorem day_of (h : Int) (h0 : 0 ≤ h) (h1 : h ≤ 876599) : okD (yr (h / 24)) (mo (h / 24)) (da (h / 24)) ∧ num (yr (h / 24)) (mo (h / 24)) (da (h / 24)) = h / 24 := civ_ok _ (by omega) (by omega)
theorem addH_day (h n : Int) (hb : addB h n = true) : addH h n / 24 = num (2000 + mix h n / 12) (mix h n % 12 + 1) (mday (mix h n) (da (h / 24))) ∧ addH h n % 24 = h % 24 := by
  have := (addB_iff h n).1 hb
  unfold addH; omega
theorem addH_bd (h n : Int) (hb : addB h n = true) : 0 ≤ addH h n ∧ addH h n ≤ 876599 := by
  have a := (addB_iff h n).1 hb
  have d := (day_of h (by omega) (by omega)).1
  have b := num_bd _ _ _ (mday_ok (mix h n) (da (h / 24)) (by omega) (by omega) d.2.2.2.2.1)
  unfold addH; omega
theorem addH_civ (h n : Int) (hb : addB h n = true) : yr (addH h n / 24) = 2000 + mix h n / 12 ∧ mo (addH h n / 24) = mix h n % 12 + 1 ∧ da (addH h n / 24) = mday (mix h n) (da (h / 24)) := by
  have a := (addB_iff h n).1 hb
  have d := (day_of h (by omega) (by omega)).1
  rw [(addH_day h n hb).1]
  exact civ_num _ _ _ (mday_ok (mix h n) (da (h / 24)) (by omega) (by omega) d.2.2.2.2.1)
theorem addH_mix (h n k : Int) (hb : addB h n = true) : mix (addH h n) k = mix h (n + k) := by
  have := addH_civ h n hb
  unfold mix
  rw [this.1, this.2.1]
  unfold mix
  omega
/-- Two steps are one, where the day is in all months. -/
theorem addH_steps (h a b : Int) (ha : addB h a = true) (hd : da (h / 24) ≤ 28) (hb : addB (addH h a) b = true) : addB h (a + b) = true ∧ addH (addH h a) b = addH h (a + b) := by
  have e1 := (addB_iff _ _).1 ha
  have e2 := (addB_iff _ _).1 hb
  have m := addH_mix h a b ha
  have hday : ∀ i, mday i (da (h / 24)) = da (h / 24) := fun i => by have := md_bd (2000 + i / 12) (i % 12 + 1); unfold mday; omega
  have c := addH_civ h a ha
  refine ⟨(addB_iff _ _).2 ⟨e1.1, e1.2.1, by rw [← m]; exact e2.2.2.1, by rw [← m]; exact e2.2.2.2⟩, ?_⟩
  have g : da (addH h a / 24) = da (h / 24) := by rw [c.2.2, hday]
  have t := (addH_day h a ha).2
  show 24 * num (2000 + mix (addH h a) b / 12) (mix (addH h a) b % 12 + 1) (mday (mix (addH h a) b) (da (addH h a / 24))) + addH h a % 24 = _
  rw [m, g, t]
  rfl
/-- Months later is later. -/
theorem num_month (i j d e : Int) (h0 : 0 ≤ i) (hij : i < j) (h1 : j < 1200) (hd : 1 ≤ d) (he : 1 ≤ e) : num (2000 + i / 12) (i % 12 + 1) (mday i d) < num (2000 + j / 12) (j % 12 + 1) (mday j e) := by
  have o1 := mday_ok i d h0 (by omega) hd
  have o2 := mday_ok j e (by omega) h1 he
  unfold okD at o1 o2
  have key : ∀ k : Nat, i + k < 1200 → dby (2000 + i / 12) + cum (2000 + i / 12) (i % 12 + 1) ≤ dby (2000 + (i + k) / 12) + cum (2000 + (i + k) / 12) ((i + k) % 12 + 1) := by
    intro k
    induction k with
    | zero => intro _; simp
    | succ k ih =>
      intro hk
      have := ih (by push_cast at hk; omega)
      have hs := cum_succ (2000 + (i + k) / 12) ((i + k) % 12 + 1) (by omega) (by omega)
      have hm := md_bd (2000 + (i + k) / 12) ((i + k) % 12 + 1)
      by_cases hw : (i + k) % 12 = 11
      · rw [show (i + ((k + 1 : Nat) : Int)) / 12 = (i + k) / 12 + 1 by push_cast; omega, show (i + ((k + 1 : Nat) : Int)) % 12 + 1 = 1 by push_cast; omega]
        rw [hw] at hs this hm
        have e1 := cum_end (2000 + (i + k) / 12)
        have e2 := cum_one (2000 + ((i + k) / 12 + 1))
        have e3 := dby_succ (2000 + (i + k) / 12)
        rw [show 2000 + (i + k) / 12 + 1 = 2000 + ((i + (k : Int)) / 12 + 1) by omega] at e3
        simp at hs e1 this hm
        omega
      · rw [show (i + ((k + 1 : Nat) : Int)) / 12 = (i + k) / 12 by push_cast; omega, show (i + ((k + 1 : Nat) : Int)) % 12 + 1 = (i + k) % 12 + 1 + 1 by push_cast; omega]
        omega
  have step : dby (2000 + i / 12) + cum (2000 + i / 12) (i % 12 + 1) + md (2000 + i / 12) (i % 12 + 1) ≤ dby (2000 + j / 12) + cum (2000 + j / 12) (j % 12 + 1) := by
    have hs := cum_succ (2000 + i / 12) (i % 12 + 1) (by omega) (by omega)
    by_cases hw : i % 12 = 11
    · have e1 := cum_end (2000 + i / 12)
      have e3 := dby_succ (2000 + i / 12)
      have := dby_mono (2000 + i / 12 + 1) (2000 + j / 12) (by omega)
      have cb := cum_bd (2000 + j / 12) (j % 12 + 1) (by omega) (by omega)
      rw [hw] at hs ⊢
      simp at hs e1 ⊢
      omega
    · have cm : ∀ n : Nat, i % 12 + 2 + n ≤ 12 → cum (2000 + i / 12) (i % 12 + 2) ≤ cum (2000 + i / 12) (i % 12 + 2 + n) := by
        intro n
        induction n with
        | zero => intro _; simp
        | succ n ih =>
          intro hn
          have a := ih (by push_cast at hn; omega)
          have b := cum_succ (2000 + i / 12) (i % 12 + 2 + n) (by omega) (by push_cast at hn; omega)
          have c := md_bd (2000 + i / 12) (i % 12 + 2 + n)
          rw [show i % 12 + 2 + ((n + 1 : Nat) : Int) = i % 12 + 2 + n + 1 by push_cast; omega]
          omega
      rw [show i % 12 + 1 + 1 = i % 12 + 2 by omega] at hs
      by_cases hy : j / 12 = i / 12
      · have := cm (j % 12 - i % 12 - 1).toNat (by omega)
        rw [show i % 12 + 2 + ((j % 12 - i % 12 - 1).toNat : Int) = j % 12 + 1 by omega] at this
        rw [hy]; omega
      · have hle := cum_le_end (2000 + i / 12) (i % 12 + 1) (by omega) (by omega)
        have e3 := dby_succ (2000 + i / 12)
        have := dby_mono (2000 + i / 12 + 1) (2000 + j / 12) (by omega)
        have cb := cum_bd (2000 + j / 12) (j % 12 + 1) (by omega) (by omega)
        omega
  unfold num
  omega
theorem addH_lt (h a b : Int) (ha : addB h a = true) (hb : addB h b = true) (hab : a < b) : addH h a < addH h b := by
  have e1 := (addB_iff _ _).1 ha
  have e2 := (addB_iff _ _).1 hb
  have d := (day_of h (by omega) (by omega)).1.2.2.2.2.1
  have := num_month (mix h a) (mix h b) (da (h / 24)) (da (h / 24)) (by omega) (by unfold mix; omega) (by omega) d d
  unfold addH; omega
theorem addH_zero (h : Int) (h0 : 0 ≤ h) (h1 : h ≤ 876599) : addB h 0 = true ∧ addH h 0 = h := by
  have d := day_of h h0 h1
  have o := d.1
  unfold okD at o
  have e1 : mix h 0 / 12 = yr (h / 24) - 2000 := by unfold mix; omega
  have e2 : mix h 0 % 12 + 1 = mo (h / 24) := by unfold mix; omega
  refine ⟨(addB_iff _ _).2 ⟨h0, h1, by unfold mix; omega, by unfold mix; omega⟩, ?_⟩
  unfold addH mday
  rw [e1, e2, show 2000 + (yr (h / 24) - 2000) = yr (h / 24) by omega, show min (da (h / 24)) (md (yr (h / 24)) (mo (h / 24))) = da (h / 24) by omega, d.2]
  omega
end Go.Proofs.YtjmipikahaoblaaGreatDoor.Cal
namespace Go.Proofs.YtjmipikahaoblaaGreatDoor.Cal
open Go.RowKit Go.Lib Go.Proofs.YtjmipikahaoblaaGreatDoor.Bas
set_option linter.unusedVariables false

/-- The table of the months' lengths, as it was laid. -/
def Tab (w : World) : Prop := ∀ i : Nat, i < 12 → w.cell? ⟨2, i, none⟩ = some (.int .i64 (md 2001 ((i : Int) + 1)))
theorem Tab.lt {w : World} (h : Tab w) : 2 < w.heap.size := World.block_lt_of_cell? _ _ (h 0 (by omega))
theorem Tab.below {B : Nat} {w w' : World} (h : Tab w) (hb : Below B w w') (hB : 2 < B) : Tab w' := fun i hi => by rw [hb.cell (p := ⟨2, i, none⟩) hB]; exact h i hi
theorem Tab.keep {w w' : World} (h : Tab w) (hb : Below w.heap.size w w') : Tab w' := h.below hb h.lt
theorem Tab.drewN {w : World} (h : Tab w) (n : Nat) : Tab (w.drewN n) := h

theorem ret_int {k : IntKind} {a b : Int} (h : a = b) : Ending.returned (.int k a) = .returned (.int k b) := by rw [h]
theorem md_leap (y : Int) (h : y % 4 = 0) : md y 2 = md 2001 2 + 1 := by simp [md, lp, h]
theorem md_base (y m : Int) (h : m ≠ 2 ∨ y % 4 ≠ 0) : md y m = md 2001 m := by
  unfold md lp
  by_cases h2 : m = 2
  · rw [if_pos h2, if_pos h2, if_neg (by omega), if_neg (by omega)]
  · rw [if_neg h2, if_neg h2]

set_option maxHeartbeats 400000 in
theorem length_any (y m : Int) (w : World) (hT : Tab w) (hy : 2000 ≤ y) (hy2 : y ≤ 2099) (hm : 1 ≤ m) (hm2 : m ≤ 12) :
    Calls Tryz.prog 178 #[.int .i64 y, .int .i64 m] w fun e w' => e = .returned (.int .i64 (md y m)) ∧ w = w' := by
  have hc := hT (m.toNat - 1) (by omega)
  rw [show ((m.toNat - 1 : Nat) : Int) + 1 = m by omega] at hc
  have hb := md_bd 2001 m
  have hb1 := hb.1
  have hb2 := hb.2
  clear hb
  by_cases h2 : m = 2
  · by_cases h4 : y % 4 = 0
    · subst h2
      have h := md_leap y h4
      rw [h]
      clear h
      have b1 : (y % 4 == 0) = true := by simp [h4]
      clear h4 hT
      generalize md 2001 2 = z at *
      have hc1 : w.cell? ⟨2, 1, none⟩ = some (.int .i64 z) := hc
      clear hc
      go_enter Tryz.func178, Tryz.ntmps178
      go_wp2
      go_ret
      exact ⟨rfl, rfl⟩
    · subst h2
      rw [md_base y 2 (Or.inr h4)]
      have b1 : (y % 4 == 0) = false := by simp [h4]
      clear h4 hT
      generalize md 2001 2 = z at *
      have hc1 : w.cell? ⟨2, 1, none⟩ = some (.int .i64 z) := hc
      clear hc
      go_enter Tryz.func178, Tryz.ntmps178
      go_wp2
      go_ret
      exact ⟨rfl, rfl⟩
  · rw [md_base y m (Or.inl h2)]
    have b1 : (m == 2) = false := by simp [h2]
    clear hT h2
    generalize md 2001 m = z at *
    go_enter Tryz.func178, Tryz.ntmps178
    go_wp2
    go_ret
    exact ⟨rfl, rfl⟩

theorem before_any (y : Int) (w : World) (hy : 2000 ≤ y) (hy2 : y ≤ 2099) :
    Calls Tryz.prog 177 #[.int .i64 y] w fun e w' => e = .returned (.int .i64 (dby y)) ∧ w = w' := by
  go_enter Tryz.func177, Tryz.ntmps177
  go_wp2
  go_ret
  exact ⟨rfl, rfl⟩
theorem yearOf_any (n : Int) (w : World) (h0 : 0 ≤ n) (h1 : n ≤ 36524) :
    Calls Tryz.prog 176 #[.int .i64 n] w fun e w' => e = .returned (.int .i64 (yr n)) ∧ w = w' := by
  go_enter Tryz.func176, Tryz.ntmps176
  go_wp2
  go_ret
  exact ⟨rfl, rfl⟩
theorem inRange_yes (n : Int) (w : World) (h0 : 0 ≤ n) (h1 : n ≤ 876599) :
    Calls Tryz.prog 175 #[.int .i64 n] w fun e w' => e = .returned (.bool true) ∧ w = w' := by
  go_enter Tryz.func175, Tryz.ntmps175
  go_wp2
  go_ret
  exact ⟨rfl, rfl⟩
theorem inRange_no (n : Int) (w : World) (h : ¬ (0 ≤ n ∧ n ≤ 876599)) :
    Calls Tryz.prog 175 #[.int .i64 n] w fun e w' => e = .returned (.bool false) ∧ w = w' := by
  by_cases h0 : 0 ≤ n
  · have h1 : ¬ n ≤ 876599 := fun h1 => h ⟨h0, h1⟩
    clear h
    go_enter Tryz.func175, Tryz.ntmps175
    go_wp2
    go_ret
    exact ⟨rfl, rfl⟩
  · clear h
    go_enter Tryz.func175, Tryz.ntmps175
    go_wp2
    go_ret
    exact ⟨rfl, rfl⟩
theorem inHours_yes (n : Int) (w : World) (h0 : 0 ≤ n) (h1 : n ≤ 876599) :
    Calls Tryz.prog 163 #[.int .i64 n] w fun e w' => e = .returned (.bool true) ∧ w = w' := by
  go_enter Tryz.func163, Tryz.ntmps163
  go_wp2
  go_ret
  exact ⟨rfl, rfl⟩
theorem inHours_no (n : Int) (w : World) (h : ¬ (0 ≤ n ∧ n ≤ 876599)) :
    Calls Tryz.prog 163 #[.int .i64 n] w fun e w' => e = .returned (.bool false) ∧ w = w' := by
  by_cases h0 : 0 ≤ n
  · have h1 : ¬ n ≤ 876599 := fun h1 => h ⟨h0, h1⟩
    clear h
    go_enter Tryz.func163, Tryz.ntmps163
    go_wp2
    go_ret
    exact ⟨rfl, rfl⟩
  · clear h
    go_enter Tryz.func163, Tryz.ntmps163
    go_wp2
    go_ret
    exact ⟨rfl, rfl⟩
set_option maxHeartbeats 400000 in
theorem leap_any (y : Int) (w : World) (hy : 2000 ≤ y) (hy2 : y ≤ 2099) :
    Calls Tryz.prog 155 #[.int .i64 y] w fun e w' => e = .returned (.bool (decide (y % 4 = 0))) ∧ w = w' := by
  by_cases h4 : y % 4 = 0
  · rw [decide_eq_true h4]
    by_cases h100 : y = 2000
    · subst h100
      go_enter Tryz.func155, Tryz.ntmps155
      go_wp2
      go_ret
      exact ⟨rfl, rfl⟩
    · have b1 : (y % 4 == 0) = true := by simp [h4]
      have b2 : (y % 100 == 0) = false := by simp; omega
      have b3 : (y % 100 != 0) = true := by simp; omega
      clear h4 h100
      go_enter Tryz.func155, Tryz.ntmps155
      go_wp2
      go_ret
      exact ⟨rfl, rfl⟩
  · rw [decide_eq_false h4]
    have b1 : (y % 4 == 0) = false := by simp [h4]
    clear h4
    go_enter Tryz.func155, Tryz.ntmps155
    go_wp2
    go_ret
    exact ⟨rfl, rfl⟩
end Go.Proofs.YtjmipikahaoblaaGreatDoor.Cal
namespace Go.Proofs.YtjmipikahaoblaaGreatDoor.Cal
open Go.RowKit Go.Lib Go.Proofs.YtjmipikahaoblaaGreatDoor.Bas
set_option linter.unusedVariables false

set_option maxHeartbeats 400000 in
theorem days_any (y m : Int) (w : World) (hy : 2000 ≤ y) (hy2 : y ≤ 2099) :
    Calls Tryz.prog 154 #[.int .i64 y, .int .i64 m] w fun e w' => e = .returned (.int .i64 (md y m)) ∧ w = w' := by
  by_cases h2 : m = 2
  · subst h2
    have e : md y 2 = if y % 4 = 0 then 29 else 28 := by unfold md lp; rw [if_pos rfl]; split <;> rfl
    rw [e]; clear e
    by_cases h4 : y % 4 = 0
    · rw [if_pos h4]
      have c := Lib.hid (leap_any y w hy hy2)
      rw [decide_eq_true h4] at c
      clear h4
      go_enter Tryz.func154, Tryz.ntmps154
      go_wp2_with (refine c.out.mono ?_; rintro e w' ⟨rfl, rfl⟩)
      go_ret
      exact ⟨rfl, rfl⟩
    · rw [if_neg h4]
      have c := Lib.hid (leap_any y w hy hy2)
      rw [decide_eq_false h4] at c
      clear h4
      go_enter Tryz.func154, Tryz.ntmps154
      go_wp2_with (refine c.out.mono ?_; rintro e w' ⟨rfl, rfl⟩)
      go_ret
      exact ⟨rfl, rfl⟩
  · by_cases h3 : m = 4 ∨ m = 6 ∨ m = 9 ∨ m = 11
    · rcases h3 with h | h | h | h <;> subst h <;> clear h2
      all_goals
        rw [show md y _ = 30 from rfl]
        go_enter Tryz.func154, Tryz.ntmps154
        go_wp2
        go_ret
        exact ⟨rfl, rfl⟩
    · rw [show md y m = 31 by unfold md; rw [if_neg h2, if_neg h3]]
      have b2 : (m == 2) = false := by simp; omega
      have b4 : (m == 4) = false := by simp; omega
      have b6 : (m == 6) = false := by simp; omega
      have b9 : (m == 9) = false := by simp; omega
      have b11 : (m == 11) = false := by simp; omega
      clear h2 h3
      go_enter Tryz.func154, Tryz.ntmps154
      go_wp2
      go_ret
      exact ⟨rfl, rfl⟩

/-- A date as a value. -/
def dateV (y m d : Int) : Value := .agg #[.int .i64 y, .int .i64 m, .int .i64 d]
def CivOut (y m d h r : Int) (w : World) (e : Ending) (w' : World) : Prop := e = .returned (.tuple #[.agg #[.int .i64 y, .int .i64 m, .int .i64 d], .int .i64 h, .int .i64 r]) ∧ Below w.heap.size w w'

theorem civil_no (n : Int) (w : World) (h : ¬ (0 ≤ n ∧ n ≤ 876599)) : Calls Tryz.prog 159 #[.int .i64 n] w (CivOut 0 0 0 0 1 w) := by
  have c := Lib.hid (fun w => inRange_no n w h)
  clear h
  go_enter Tryz.func159, Tryz.ntmps159
  go_wp2_with (refine (c.out _).mono ?_; rintro e w' ⟨rfl, rfl⟩)
  exact bodyPost_ret (v := .tuple #[.agg #[.int .i64 0, .int .i64 0, .int .i64 0], .int .i64 0, .int .i64 1]) (by simp [results, Tryz.results159, go_sem]) rfl ⟨rfl, (((Below.refl _ _).alloc (Nat.le_refl _) _))⟩
theorem rcivil_no (n : Int) (w : World) (h : ¬ (0 ≤ n ∧ n ≤ 876599)) : Calls Tryz.prog 144 #[.int .i64 n] w (CivOut 0 0 0 0 1 w) := by
  have c := Lib.hid (fun w => inHours_no n w h)
  clear h
  go_enter Tryz.func144, Tryz.ntmps144
  go_wp2_with (refine (c.out _).mono ?_; rintro e w' ⟨rfl, rfl⟩)
  exact bodyPost_ret (v := .tuple #[.agg #[.int .i64 0, .int .i64 0, .int .i64 0], .int .i64 0, .int .i64 1]) (by simp [results, Tryz.results144, go_sem]) rfl ⟨rfl, (((Below.refl _ _).alloc (Nat.le_refl _) _))⟩

set_option maxHeartbeats 1000000 in
theorem civil_yes (n : Int) (w : World) (hT : Tab w) (h0 : 0 ≤ n) (h1 : n ≤ 876599) : Calls Tryz.prog 159 #[.int .i64 n] w (CivOut (yr (n / 24)) (mo (n / 24)) (da (n / 24)) (n % 24) 0 w) := by
  have c := Lib.hid (fun w => inRange_yes n w h0 h1)
  have cy := Lib.hid (fun w => yearOf_any (n / 24) w (by omega) (by omega))
  have yb := yr_bd (n / 24) (by omega) (by omega)
  have cb := Lib.hid (fun w => before_any (yr (n / 24)) w yb.1 yb.2)
  have cl := Lib.hid (fun m w hT => length_any (yr (n / 24)) m w hT yb.1 yb.2)
  have lo := yr_lo (n / 24)
  have hi := yr_hi (n / 24)
  rw [dby_succ] at hi
  have l01 := lp_01 (yr (n / 24))
  have db := dby_bd _ yb.1 yb.2
  have hT1 := Lib.hid (hT.keep ((Below.refl _ _).alloc (Nat.le_refl _) (.cells #[.int .i64 0, .int .i64 0, .int .i64 0] 143)))
  have hfin : ∀ m : Int, 1 ≤ m → m ≤ 12 → 0 ≤ n / 24 - dby (yr (n / 24)) - cum (yr (n / 24)) m → n / 24 - dby (yr (n / 24)) - cum (yr (n / 24)) m < md (yr (n / 24)) m → mo (n / 24) = m ∧ da (n / 24) = n / 24 - dby (yr (n / 24)) - cum (yr (n / 24)) m + 1 := by
    intro m a1 a2 a3 a4
    exact (civ_eq (n / 24) (yr (n / 24)) m _ ⟨yb.1, yb.2, a1, a2, by omega, by omega⟩ (by unfold num; omega)).2
  have hfin' := Lib.hid hfin
  have yb1 := yb.1
  have yb2 := yb.2
  have db1 := db.1
  have db2 := db.2
  have l1 := l01.1
  have l2 := l01.2
  have hqb1 : 0 ≤ n / 24 := by omega
  have hqb2 : n / 24 ≤ 36524 := by omega
  clear hfin hT yb db l01
  generalize hq : n / 24 = q at *
  have hq' := Lib.hid hq
  clear hq
  go_enter Tryz.func159, Tryz.ntmps159
  go_wp2_with fail
  refine (c.out _).mono ?_; rintro e w' ⟨rfl, rfl⟩
  go_wp2_with fail
  rw [hq'.out]
  refine (cy.out _).mono ?_; rintro e w' ⟨rfl, rfl⟩
  go_wp2_with fail
  refine (cb.out _).mono ?_; rintro e w' ⟨rfl, rfl⟩
  go_wp2_with fail
  go_loop [5, 7] (fun r k => ∃ m : Int, 1 ≤ m ∧ m ≤ 12 ∧ k = .int .i64 m ∧ 0 ≤ q - dby (yr q) - cum (yr q) m ∧ r = .int .i64 (q - dby (yr q) - cum (yr q) m)) (fun _ k => (12 - RowKit.intOf k).toNat)
  case atStart => exact ⟨1, by omega, by omega, rfl, by rw [cum_one]; omega, by rw [cum_one]; simp⟩
  case round =>
    obtain ⟨m, hm1, hm2, rfl, hr, rfl⟩ := hrel
    have mb := md_bd (yr q) m
    have mb1 := mb.1
    have mb2 := mb.2
    have cs := Lib.hid (cum_succ (yr q) m hm1 hm2)
    have cb2 := cum_bd (yr q) m hm1 hm2
    have cb3 := cb2.1
    have cb4 := cb2.2
    clear mb cb2
    have cl1 := Lib.hid (cl.out m _ hT1.out hm1 hm2)
    by_cases hd : md (yr q) m ≤ q - dby (yr q) - cum (yr q) m
    · have hm12 : m < 12 := by
        have := cs.out
        by_cases e : m = 12
        · subst e
          have := cum_end (yr q)
          rw [show (12 : Int) + 1 = 13 from rfl] at *
          omega
        · omega
      go_wp2_with (refine cl1.out.mono ?_; rintro e w' ⟨rfl, rfl⟩)
      go_round
      case rel => exact ⟨m + 1, by omega, by omega, rfl, by rw [cs.out]; omega, by rw [cs.out]; go_num⟩
      case measure => simp [RowKit.intOf]; omega
    · have hd2 : q - dby (yr q) - cum (yr q) m < md (yr q) m := by omega
      have f := Lib.hid (hfin'.out m hm1 hm2 hr hd2)
      clear hd
      go_wp2_with (refine cl1.out.mono ?_; rintro e w' ⟨rfl, rfl⟩)
      exact bodyPost_ret (v := .tuple #[.agg #[.int .i64 (yr q), .int .i64 m, .int .i64 (q - dby (yr q) - cum (yr q) m + 1)], .int .i64 (n % 24), .int .i64 0]) (by simp [results, Tryz.results159, go_sem]) rfl ⟨by rw [f.out.1, f.out.2], (((Below.refl _ _).alloc (Nat.le_refl _) _))⟩

theorem md_of_rleap (y : Int) : 0 ≤ lp y := (lp_01 y).1
set_option maxHeartbeats 2000000 in
theorem rcivil_yes (n : Int) (w : World) (h0 : 0 ≤ n) (h1 : n ≤ 876599) : Calls Tryz.prog 144 #[.int .i64 n] w (CivOut (yr (n / 24)) (mo (n / 24)) (da (n / 24)) (n % 24) 0 w) := by
  have c := Lib.hid (fun w => inHours_yes n w h0 h1)
  have cl := Lib.hid (fun y m w => days_any y m w)
  have hfin : ∀ y m d : Int, 2000 ≤ y → y ≤ 2099 → 1 ≤ m → m ≤ 12 → 0 ≤ d → d < md y m → d + dby y + cum y m = n / 24 → yr (n / 24) = y ∧ mo (n / 24) = m ∧ da (n / 24) = d + 1 := by
    intro y m d b1 b2 a1 a2 a3 a4 a5
    exact civ_eq (n / 24) y m (d + 1) ⟨b1, b2, a1, a2, by omega, by omega⟩ (by unfold num; omega)
  have hfin' := Lib.hid hfin
  have hqb1 : 0 ≤ n / 24 := by omega
  have hqb2 : n / 24 ≤ 36524 := by omega
  clear hfin
  generalize hq : n / 24 = q at *
  have hq' := Lib.hid hq
  clear hq
  go_enter Tryz.func144, Tryz.ntmps144
  go_wp2_with fail
  refine (c.out _).mono ?_; rintro e w' ⟨rfl, rfl⟩
  go_wp2_with fail
  rw [hq'.out]
  go_loop [5, 6, 7] (fun r g k => ∃ y m d : Int, 2000 ≤ y ∧ y ≤ 2099 ∧ 1 ≤ m ∧ m ≤ 12 ∧ 0 ≤ d ∧ d ≤ 36524 ∧ Hid (d + dby y + cum y m = q) ∧ g = .int .i64 y ∧ k = .int .i64 m ∧ r = .int .i64 d) (fun r _ _ => (RowKit.intOf r).toNat)
  case atStart => exact ⟨2000, 1, q, by omega, by omega, by omega, by omega, by omega, by omega, Lib.hid (by rw [dby_lo, cum_one]; omega), rfl, rfl, rfl⟩
  case round =>
    obtain ⟨y, m, d, hy1, hy2, hm1, hm2, hd1, hd2, hP, rfl, rfl, rfl⟩ := hrel
    have mb := md_bd y m
    have mb1 := mb.1
    have mb2 := mb.2
    clear mb
    have cl1 := Lib.hid (fun w => cl.out y m w hy1 hy2)
    by_cases hd : md y m ≤ d
    · by_cases hm12 : m = 12
      · subst hm12
        have hy3 : y < 2099 ∧ Hid (d - md y 12 + dby (y + 1) + cum (y + 1) 1 = q) := by
          have a1 := cum_succ y 12 (by omega) (by omega)
          have a2 := cum_end y
          have a3 := dby_succ y
          have a4 := cum_one (y + 1)
          rw [show (12 : Int) + 1 = 13 from rfl] at a1
          have a5 := hP.out
          refine ⟨?_, Lib.hid (by omega)⟩
          by_cases e : y = 2099
          · subst e; have := dby_hi; rw [show (2099 : Int) + 1 = 2100 from rfl] at *; omega
          · omega
        obtain ⟨hy3, hQ⟩ := hy3
        go_wp2_with (refine (cl1.out _).mono ?_; rintro e w' ⟨rfl, rfl⟩)
        go_round
        case rel => exact ⟨y + 1, 1, d - md y 12, by omega, by omega, by omega, by omega, by omega, by omega, hQ, rfl, rfl, rfl⟩
        case measure => simp [RowKit.intOf]; omega
      · have hm13 : m < 12 := by omega
        have hQ : Hid (d - md y m + dby y + cum y (m + 1) = q) := by
          have a1 := cum_succ y m (by omega) (by omega)
          have a5 := hP.out
          exact Lib.hid (by omega)
        clear hm12
        go_wp2_with (refine (cl1.out _).mono ?_; rintro e w' ⟨rfl, rfl⟩)
        go_round
        case rel => exact ⟨y, m + 1, d - md y m, by omega, by omega, by omega, by omega, by omega, by omega, hQ, rfl, rfl, rfl⟩
        case measure => simp [RowKit.intOf]; omega
    · have hd3 : d < md y m := by omega
      have f := Lib.hid (hfin'.out y m d hy1 hy2 hm1 hm2 hd1 hd3 hP.out)
      clear hd
      go_wp2_with (refine (cl1.out _).mono ?_; rintro e w' ⟨rfl, rfl⟩)
      exact bodyPost_ret (v := .tuple #[.agg #[.int .i64 y, .int .i64 m, .int .i64 (d + 1)], .int .i64 (n % 24), .int .i64 0]) (by simp [results, Tryz.results144, go_sem]) rfl ⟨by rw [f.out.1, f.out.2.1, f.out.2.2], (((Below.refl _ _).alloc (Nat.le_refl _) _))⟩
end Go.Proofs.YtjmipikahaoblaaGreatDoor.Cal
namespace Go.Proofs.YtjmipikahaoblaaGreatDoor.Cal
open Go.RowKit Go.Lib Go.Proofs.YtjmipikahaoblaaGreatDoor.Bas
set_option linter.unusedVariables false

/-- A bool; nothing of before has changed. -/
def BoolBe (b : Bool) (w : World) (e : Ending) (w' : World) : Prop := e = .returned (.bool b) ∧ Below w.heap.size w w'
/-- A number and an error; nothing of before has changed. -/
def NumOut (x r : Int) (w : World) (e : Ending) (w' : World) : Prop := e = .returned (.tuple #[.int .i64 x, .int .i64 r]) ∧ Below w.heap.size w w'

set_option maxHeartbeats 1000000 in
theorem exists_year (y m d : Int) (w : World) (h : y < 2000 ∨ 2099 < y ∨ m < 1 ∨ 12 < m) : Calls Tryz.prog 190 #[.agg #[.int .i64 y, .int .i64 m, .int .i64 d]] w (BoolBe false w) := by
  by_cases h1 : y < 2000
  · clear h
    go_enter Tryz.func190, Tryz.ntmps190
    go_wp2
    go_ret
    exact ⟨rfl, alloc1 _ _⟩
  by_cases h2 : 2099 < y
  · clear h
    go_enter Tryz.func190, Tryz.ntmps190
    go_wp2
    go_ret
    exact ⟨rfl, alloc1 _ _⟩
  by_cases h3 : m < 1
  · clear h
    go_enter Tryz.func190, Tryz.ntmps190
    go_wp2
    go_ret
    exact ⟨rfl, alloc1 _ _⟩
  by_cases h4 : 12 < m
  · clear h
    go_enter Tryz.func190, Tryz.ntmps190
    go_wp2
    go_ret
    exact ⟨rfl, alloc1 _ _⟩
  omega
set_option maxHeartbeats 2000000 in
theorem exists_d1 (y m d z : Int) (w : World) (hy1 : 2000 ≤ y) (hy2 : y ≤ 2099) (hm1 : 1 ≤ m) (hm2 : m ≤ 12) (d1 : decide (1 ≤ d) = false) :
    Calls Tryz.prog 190 #[.agg #[.int .i64 y, .int .i64 m, .int .i64 d]] w (BoolBe false w) := by
  go_enter Tryz.func190, Tryz.ntmps190
  go_wp2_with fail
  try any_goals (exfalso; omega; done)
  go_quiet (fail)
  go_wp2_with fail
  go_ret
  exact ⟨rfl, below_drewN (alloc1 _ _) _⟩
set_option maxHeartbeats 2000000 in
theorem exists_d2 (y m d z : Int) (w : World) (hy1 : 2000 ≤ y) (hy2 : y ≤ 2099) (hm1 : 1 ≤ m) (hm2 : m ≤ 12) (d1 : decide (1 ≤ d) = true) (d3 : decide (d ≤ z) = false) (c : Hid (∀ n, Calls Tryz.prog 178 #[.int .i64 y, .int .i64 m] ((w.alloc (.cells #[.int .i64 y, .int .i64 m, .int .i64 d] 143)).drewN n) fun e w' => e = .returned (.int .i64 z) ∧ ((w.alloc (.cells #[.int .i64 y, .int .i64 m, .int .i64 d] 143)).drewN n) = w')) :
    Calls Tryz.prog 190 #[.agg #[.int .i64 y, .int .i64 m, .int .i64 d]] w (BoolBe false w) := by
  go_enter Tryz.func190, Tryz.ntmps190
  go_wp2_with fail
  try any_goals (exfalso; omega; done)
  go_quiet ((go_at_call 178; exact Calls.quiet_of ((c.out _).mono fun _ _ ⟨he, hw⟩ => ⟨he, 0, hw.symm⟩)))
  go_wp2_with fail
  go_ret
  exact ⟨rfl, below_drewN (alloc1 _ _) _⟩
set_option maxHeartbeats 2000000 in
theorem exists_d3 (y m d z : Int) (w : World) (hy1 : 2000 ≤ y) (hy2 : y ≤ 2099) (hm1 : 1 ≤ m) (hm2 : m ≤ 12) (d1 : decide (1 ≤ d) = true) (d3 : decide (d ≤ z) = true) (c : Hid (∀ n, Calls Tryz.prog 178 #[.int .i64 y, .int .i64 m] ((w.alloc (.cells #[.int .i64 y, .int .i64 m, .int .i64 d] 143)).drewN n) fun e w' => e = .returned (.int .i64 z) ∧ ((w.alloc (.cells #[.int .i64 y, .int .i64 m, .int .i64 d] 143)).drewN n) = w')) :
    Calls Tryz.prog 190 #[.agg #[.int .i64 y, .int .i64 m, .int .i64 d]] w (BoolBe true w) := by
  go_enter Tryz.func190, Tryz.ntmps190
  go_wp2_with fail
  try any_goals (exfalso; omega; done)
  go_quiet ((go_at_call 178; exact Calls.quiet_of ((c.out _).mono fun _ _ ⟨he, hw⟩ => ⟨he, 0, hw.symm⟩)))
  go_wp2_with fail
  go_ret
  exact ⟨rfl, below_drewN (alloc1 _ _) _⟩
theorem exists_day (y m d : Int) (w : World) (hT : Tab w) (hy1 : 2000 ≤ y) (hy2 : y ≤ 2099) (hm1 : 1 ≤ m) (hm2 : m ≤ 12) (b : Bool) (hb : decide (1 ≤ d ∧ d ≤ md y m) = b) :
    Calls Tryz.prog 190 #[.agg #[.int .i64 y, .int .i64 m, .int .i64 d]] w (BoolBe b w) := by
  have c := Lib.hid (fun n => length_any y m ((w.alloc (.cells #[.int .i64 y, .int .i64 m, .int .i64 d] 143)).drewN n) ((hT.keep (alloc1 _ _)).drewN n) hy1 hy2 hm1 hm2)
  subst hb
  by_cases h1 : 1 ≤ d
  · by_cases h2 : d ≤ md y m
    · rw [show decide (1 ≤ d ∧ d ≤ md y m) = true from decide_eq_true ⟨h1, h2⟩]
      exact exists_d3 y m d _ w hy1 hy2 hm1 hm2 (decide_eq_true h1) (decide_eq_true h2) c
    · rw [show decide (1 ≤ d ∧ d ≤ md y m) = false from decide_eq_false (fun h => h2 h.2)]
      exact exists_d2 y m d _ w hy1 hy2 hm1 hm2 (decide_eq_true h1) (decide_eq_false h2) c
  · rw [show decide (1 ≤ d ∧ d ≤ md y m) = false from decide_eq_false (fun h => h1 h.1)]
    exact exists_d1 y m d 0 w hy1 hy2 hm1 hm2 (decide_eq_false h1)
/-- Is there such a day? -/
def okDB (y m d : Int) : Bool := decide (okD y m d)
theorem exists_any (y m d : Int) (w : World) (hT : Tab w) (b : Bool) (hb : okDB y m d = b) :
    Calls Tryz.prog 190 #[.agg #[.int .i64 y, .int .i64 m, .int .i64 d]] w (BoolBe b w) := by
  subst hb
  by_cases h : y < 2000 ∨ 2099 < y ∨ m < 1 ∨ 12 < m
  · rw [show okDB y m d = false from decide_eq_false (by unfold okD; omega)]
    exact exists_year y m d w h
  · exact exists_day y m d w hT (by omega) (by omega) (by omega) (by omega) _ (by unfold okDB okD; congr 1; simp; omega)

set_option maxHeartbeats 1000000 in
theorem hour_no (y m d h : Int) (w : World) (hT : Tab w) (hn : ¬ (okD y m d ∧ 0 ≤ h ∧ h < 24)) : Calls Tryz.prog 168 #[.agg #[.int .i64 y, .int .i64 m, .int .i64 d], .int .i64 h] w (NumOut 0 1 w) := by
  have a1 := Lib.hid (alloc1 w (.cells #[.int .i64 y, .int .i64 m, .int .i64 d] 143))
  have c := Lib.hid (fun b hb => exists_any y m d (w.alloc (.cells #[.int .i64 y, .int .i64 m, .int .i64 d] 143)) (hT.keep (alloc1 _ _)) b hb)
  clear hT
  by_cases ho : okD y m d
  · have co := Lib.hid (c.out true (decide_eq_true ho))
    have hh : h < 0 ∨ 24 ≤ h := by
      by_cases e : h < 0
      · exact Or.inl e
      · exact Or.inr (by by_cases e2 : h < 24; exact absurd ⟨ho, by omega, e2⟩ hn; omega)
    clear hn c ho
    rcases hh with hh | hh
    · go_enter Tryz.func168, Tryz.ntmps168
      go_wp2_with fail
      refine co.out.mono ?_; rintro e w' ⟨rfl, hB⟩
      have hB' := Lib.hid (a1.out.trans (hB.mono a1.out.size))
      clear hB
      go_wp2_with fail
      go_ret2
      exact ⟨rfl, hB'.out⟩
    · have hh2 : ¬ h < 0 := by omega
      go_enter Tryz.func168, Tryz.ntmps168
      go_wp2_with fail
      refine co.out.mono ?_; rintro e w' ⟨rfl, hB⟩
      have hB' := Lib.hid (a1.out.trans (hB.mono a1.out.size))
      clear hB
      go_wp2_with fail
      go_ret2
      exact ⟨rfl, hB'.out⟩
  · have co := Lib.hid (c.out false (decide_eq_false ho))
    clear hn c ho
    go_enter Tryz.func168, Tryz.ntmps168
    go_wp2_with fail
    refine co.out.mono ?_; rintro e w' ⟨rfl, hB⟩
    have hB' := Lib.hid (a1.out.trans (hB.mono a1.out.size))
    clear hB
    go_wp2_with fail
    go_ret2
    exact ⟨rfl, hB'.out⟩

set_option maxHeartbeats 8000000 in
theorem hour_yes (y m d h : Int) (w : World) (hT : Tab w) (ho : okD y m d) (h0 : 0 ≤ h) (h1 : h < 24) : Calls Tryz.prog 168 #[.agg #[.int .i64 y, .int .i64 m, .int .i64 d], .int .i64 h] w (NumOut (24 * num y m d + h) 0 w) := by
  have a1 := Lib.hid (alloc1 w (.cells #[.int .i64 y, .int .i64 m, .int .i64 d] 143))
  have hT1 := hT.keep (alloc1 w (.cells #[.int .i64 y, .int .i64 m, .int .i64 d] 143))
  have co := Lib.hid (exists_any y m d (w.alloc (.cells #[.int .i64 y, .int .i64 m, .int .i64 d] 143)) (hT.keep (alloc1 _ _)) true (decide_eq_true ho))
  obtain ⟨hy1, hy2, hm1, hm2, hd1, hd2⟩ := ho
  have cb := Lib.hid (fun w => before_any y w hy1 hy2)
  have cl := Lib.hid (fun k w hT => length_any y k w hT hy1 hy2)
  have hd3 := (md_bd y m).2
  have hd4 : d ≤ 31 := by omega
  have db := dby_bd y hy1 hy2
  have db1 := db.1
  have db2 := db.2
  have hT1' := Lib.hid hT1
  have hsz : w.heap.size < (w.alloc (.cells #[.int .i64 y, .int .i64 m, .int .i64 d] 143)).heap.size := by simp
  have hsz' := Lib.hid hsz
  clear hT hT1 hd3 db hd2 hsz
  go_enter Tryz.func168, Tryz.ntmps168
  go_wp2_with fail
  refine co.out.mono ?_; rintro e w1 ⟨rfl, hB⟩
  have hc1 : w1.cell? ⟨w.heap.size, 0, none⟩ = some (.int .i64 y) := by rw [hB.cell hsz'.out]; simp
  have hc2 : w1.cell? ⟨w.heap.size, 1, none⟩ = some (.int .i64 m) := by rw [hB.cell hsz'.out]; simp
  have hc3 : w1.cell? ⟨w.heap.size, 2, none⟩ = some (.int .i64 d) := by rw [hB.cell hsz'.out]; simp
  have hT2 := Lib.hid (hT1'.out.keep hB)
  have hB' := Lib.hid (a1.out.trans (hB.mono a1.out.size))
  clear hB
  go_wp2_with fail
  go_quiet ((go_at_call 177; exact Calls.quiet_of ((cb.out _).mono fun _ _ ⟨he, hw⟩ => ⟨he, 0, hw.symm⟩)))
  go_wp2_with fail
  go_loop [6, 7] (fun r k => ∃ m' : Int, 1 ≤ m' ∧ m' ≤ m ∧ k = .int .i64 m' ∧ r = .int .i64 (dby y + d - 1 + cum y m')) (fun _ k => (12 - RowKit.intOf k).toNat)
  case atStart => exact ⟨1, by omega, by omega, rfl, by rw [cum_one, Int.add_zero]⟩
  case round =>
    obtain ⟨k, hk1, hk2, rfl, rfl⟩ := hrel
    have hk3 : k ≤ 12 := by omega
    have cb2 := cum_bd y k hk1 hk3
    have cb3 := cb2.1
    have cb4 := cb2.2
    clear cb2
    by_cases hlt : k < m
    · have cs := Lib.hid (cum_succ y k hk1 hk3)
      have mb := md_bd y k
      have mb1 := mb.1
      have mb2 := mb.2
      clear mb
      have cl1 := Lib.hid (cl.out k _ (hT2.out.drewN nq) hk1 hk3)
      go_wp2_with (refine cl1.out.mono ?_; rintro e w' ⟨rfl, rfl⟩)
      go_round
      case rel => exact ⟨k + 1, by omega, by omega, rfl, by rw [cs.out]; go_num⟩
      case measure => simp [RowKit.intOf]; omega
    · obtain rfl : k = m := by omega
      clear hlt
      have hfin : (dby y + d - 1 + cum y k) * 24 + h = 24 * num y k d + h := by unfold num; omega
      have hfin' := Lib.hid hfin
      clear hfin
      go_wp2_with fail
      go_ret2
      refine ⟨?_, below_drewN hB'.out _⟩
      rw [← hfin'.out]
      rfl
end Go.Proofs.YtjmipikahaoblaaGreatDoor.Cal
