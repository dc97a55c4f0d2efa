/- Stores into rows of rates. -/
import Derived.Test.YtcdfedkcefhdiaaExcTable
import Derived.Test.YtcdfedkcefhdiaaExcBase
namespace Go.Proofs.Ytcdfedkcefhdiaa.Exc
open Go.RowKit Go.Lib Go.Proofs.Ytcdfedkcefhdiaa.Bas Go.Proofs.Ytcdfedkcefhdiaa.Spl Go.Proofs.Ytcdfedkcefhdiaa.Dk
set_option linter.unusedVariables false

theorem flat3_set (L : List Rt) : ∀ (k : Nat) (x : Rt), k < L.length → flat3 (L.set k x) = (((flat3 L).set (k * 3) (.int .i64 x.c)).set (k * 3 + 1) (.int .i64 x.f)).set (k * 3 + 2) (.int .i64 x.p) := by
  induction L with
  | nil => intro k x h; simp at h
  | cons p r ih =>
    intro k x h
    have e : ∀ (p : Rt) (r : List Rt), flat3 (p :: r) = .int .i64 p.c :: .int .i64 p.f :: .int .i64 p.p :: flat3 r := fun p r => by simp [flat3]
    cases k with
    | zero => rw [List.set_cons_zero, e, e]; rfl
    | succ k =>
      rw [List.set_cons_succ, e, e, ih k x (by simpa using h), show (k + 1) * 3 = k * 3 + 1 + 1 + 1 by omega]
      rfl
theorem set_same {l : List Value} {i : Nat} {u : Value} (h : l[i]? = some u) : l.set i u = l := by
  apply List.ext_getElem?
  intro j
  rw [List.getElem?_set]
  by_cases e : i = j
  · subst e
    rw [if_pos rfl]
    have hi := (List.getElem?_eq_some_iff.1 h).1
    rw [if_pos hi, h]
  · rw [if_neg e]
theorem set_self (L : List Rt) (k : Nat) (hk : k < L.length) : L.set k (rt L k) = L := by rw [rt_at L k hk]; exact List.set_getElem_self hk
/-- A rate's hour, currency. -/
theorem flat3_setF (L : List Rt) (k : Nat) (z : Int) (h : k < L.length) : (flat3 L).set (k * 3 + 1) (.int .i64 z) = flat3 (L.set k ⟨(rt L k).c, z, (rt L k).p⟩) := by
  have a := flat3_at L k h
  rw [← rt_at L k h] at a
  rw [flat3_set L k _ h, set_same (i := k * 3) (l := flat3 L) a.1]
  refine (set_same (i := k * 3 + 2) ?_).symm
  rw [List.getElem?_set_ne (by omega)]; exact a.2.2
theorem flat3_setC (L : List Rt) (k : Nat) (z : Int) (h : k < L.length) : (flat3 L).set (k * 3) (.int .i64 z) = flat3 (L.set k ⟨z, (rt L k).f, (rt L k).p⟩) := by
  have a := flat3_at L k h
  rw [← rt_at L k h] at a
  rw [flat3_set L k _ h, set_same (i := k * 3 + 1), set_same (i := k * 3 + 2)]
  · rw [List.getElem?_set_ne (by omega)]; exact a.2.2
  · rw [List.getElem?_set_ne (by omega)]; exact a.2.1
theorem rrow_len {B g n c : Nat} {w : World} {L : List Rt} (h : RRow B w (.slice (some ⟨g, 0, none⟩) n c) L) : n = L.length := by
  obtain ⟨p, c', e, _⟩ := h.at
  simp only [Value.slice.injEq] at e
  exact e.2.1
theorem RRow.setF {B g n c : Nat} {w : World} {L : List Rt} (h : RRow B w (.slice (some ⟨g, 0, none⟩) n c) L) (k : Nat) (hk : k < L.length) (z : Int) :
    RRow B (w.setCell ⟨g, k * 3 + 1, none⟩ (.int .i64 z)) (.slice (some ⟨g, 0, none⟩) n c) (L.set k ⟨(rt L k).c, z, (rt L k).p⟩) := by
  have hn := rrow_len h
  subst hn
  unfold RRow
  rw [List.length_set, ← flat3_setF L k z hk]
  exact (World.ownsRow.stored h (k * 3 + 1) _).1
theorem RRow.setC {B g n c : Nat} {w : World} {L : List Rt} (h : RRow B w (.slice (some ⟨g, 0, none⟩) n c) L) (k : Nat) (hk : k < L.length) (z : Int) :
    RRow B (w.setCell ⟨g, k * 3, none⟩ (.int .i64 z)) (.slice (some ⟨g, 0, none⟩) n c) (L.set k ⟨z, (rt L k).f, (rt L k).p⟩) := by
  have hn := rrow_len h
  subst hn
  unfold RRow
  rw [List.length_set, ← flat3_setC L k z hk]
  exact (World.ownsRow.stored h (k * 3) _).1
/-- .. the whole rate. -/
theorem RRow.setAll {B g n c : Nat} {w : World} {L : List Rt} (h : RRow B w (.slice (some ⟨g, 0, none⟩) n c) L) (k : Nat) (hk : k < L.length) (x : Rt) :
    RRow B (((w.setCell ⟨g, k * 3, none⟩ (.int .i64 x.c)).setCell ⟨g, k * 3 + 1, none⟩ (.int .i64 x.f)).setCell ⟨g, k * 3 + 2, none⟩ (.int .i64 x.p)) (.slice (some ⟨g, 0, none⟩) n c) (L.set k x) := by
  have hn := rrow_len h
  subst hn
  unfold RRow
  rw [List.length_set, flat3_set L k x hk]
  exact (World.ownsRow.stored (World.ownsRow.stored (World.ownsRow.stored h (k * 3) _).1 (k * 3 + 1) _).1 (k * 3 + 2) _).1
theorem RRow.frozen {B g n c : Nat} {w : World} {L : List Rt} (h : RRow B w (.slice (some ⟨g, 0, none⟩) n c) L) (j : Nat) : w.frozen? ⟨g, j, none⟩ = false := by
  have hn := rrow_len h
  subst hn
  exact World.ownsRow.frozenAt h j
theorem rrow_lit0 (B : Nat) (w : World) (hB : B ≤ w.heap.size) : RRow B (w.alloc (.cells #[] 35)) (.slice (some ⟨w.heap.size, 0, none⟩) 0 0) [] := by
  have := World.ownsRow_lit (e := 35) (size := 3) (base := B) w #[] 0 hB (by unfold maxLen; omega) (by simp)
  unfold RRow; simpa [flat3] using this
theorem rrow_shape {B : Nat} {w : World} {v : Value} {L : List Rt} (h : RRow B w v L) (h0 : 0 < L.length) : ∃ g c, v = .slice (some ⟨g, 0, none⟩) L.length c ∧ B ≤ g ∧ g < w.heap.size ∧
    ∀ i, i < L.length → w.cell? ⟨g, i * 3, none⟩ = some (.int .i64 (rt L i).c) ∧ w.cell? ⟨g, i * 3 + 1, none⟩ = some (.int .i64 (rt L i).f) ∧ w.cell? ⟨g, i * 3 + 2, none⟩ = some (.int .i64 (rt L i).p) := by
  have hlt := World.ownsRow.lt h
  rcases h.2 with ⟨rfl, h1⟩ | ⟨g, cap, cur, rfl, hb, hg, hnc, _⟩
  · omega
  · refine ⟨g, _, rfl, hb, (hlt g rfl).2, fun i hi => ?_⟩
    have := flat3_at L i hi
    rw [rt_at L i hi, World.ownsRow.cellAt h (i * 3) (by omega), World.ownsRow.cellAt h (i * 3 + 1) (by omega), World.ownsRow.cellAt h (i * 3 + 2) (by omega)]
    exact this
/-- Three cells of a block. -/
def RAt (W : World) (b : Nat) (c f p : Int) : Prop := b < W.heap.size ∧ W.cell? ⟨b, 0, none⟩ = some (.int .i64 c) ∧ W.cell? ⟨b, 1, none⟩ = some (.int .i64 f) ∧ W.cell? ⟨b, 2, none⟩ = some (.int .i64 p)
theorem RAt.new (w : World) (c f p : Int) (t : TypeId) : RAt (w.alloc (.cells #[.int .i64 c, .int .i64 f, .int .i64 p] t)) w.heap.size c f p := by
  refine ⟨by simp, by simp, by simp, by simp⟩
theorem RAt.keep {w w' : World} {b : Nat} {c f p : Int} (h : RAt w b c f p) (hb : Below w.heap.size w w') : RAt w' b c f p := by
  obtain ⟨h0, h1, h2, h3⟩ := h
  refine ⟨Nat.lt_of_lt_of_le h0 hb.size, ?_, ?_, ?_⟩
  · rw [hb.cell (p := ⟨b, 0, none⟩) h0]; exact h1
  · rw [hb.cell (p := ⟨b, 1, none⟩) h0]; exact h2
  · rw [hb.cell (p := ⟨b, 2, none⟩) h0]; exact h3
theorem rat_kept {d : Nat} {w w' : World} {b : Nat} {c f p : Int} (h : RAt w b c f p) (k : Kept d w w') (hb : b ≠ d) : RAt w' b c f p := by
  obtain ⟨h0, h1, h2, h3⟩ := h
  have e := k.block b h0 hb
  refine ⟨Nat.lt_of_lt_of_le h0 k.size, ?_, ?_, ?_⟩
  · rw [World.cell?_of_block (w := w) (a := ⟨b, 0, none⟩) e]; exact h1
  · rw [World.cell?_of_block (w := w) (a := ⟨b, 1, none⟩) e]; exact h2
  · rw [World.cell?_of_block (w := w) (a := ⟨b, 2, none⟩) e]; exact h3
end Go.Proofs.Ytcdfedkcefhdiaa.Exc
