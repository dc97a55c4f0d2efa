/- A store of a token into a row. -/
import Derived.Test.YtaengcbjpniclaaGreatDoorLxOpen4
namespace Go.Proofs.YtaengcbjpniclaaGreatDoor.Lx
open Go.RowKit Go.Lib Go.Proofs.YtaengcbjpniclaaGreatDoor.Bas Go.Proofs.YtaengcbjpniclaaGreatDoor.Cal
set_option linter.unusedVariables false

theorem flat4_set (L : List Tk) : ∀ (k : Nat) (x : Tk), k < L.length → flat4 (L.set k x) = ((((flat4 L).set (k * 4) (.int .i64 x.k)).set (k * 4 + 1) (.string (tx x.t))).set (k * 4 + 2) (.int .i64 x.n)).set (k * 4 + 3) (.int .i64 x.p) := by
  induction L with
  | nil => intro k x h; simp at h
  | cons p r ih =>
    intro k x h
    cases k with
    | zero => rw [List.set_cons_zero, flat4_cons, flat4_cons]; rfl
    | succ k =>
      rw [List.set_cons_succ, flat4_cons, flat4_cons, ih k x (by simpa using h), show (k + 1) * 4 = k * 4 + 1 + 1 + 1 + 1 by omega]
      rfl
theorem trow_len {B g n c : Nat} {w : World} {L : List Tk} (h : TRow B w (.slice (some ⟨g, 0, none⟩) n c) L) : n = L.length := by
  obtain ⟨p, c', e, _⟩ := h.at
  simp only [Value.slice.injEq] at e
  exact e.2.1
/-- The four stores of a token. -/
def put4 (w : World) (g k : Nat) (x : Tk) : World := (((w.setCell ⟨g, k * 4, none⟩ (.int .i64 x.k)).setCell ⟨g, k * 4 + 1, none⟩ (.string (tx x.t))).setCell ⟨g, k * 4 + 2, none⟩ (.int .i64 x.n)).setCell ⟨g, k * 4 + 3, none⟩ (.int .i64 x.p)
theorem TRow.setAll {B g n c : Nat} {w : World} {L : List Tk} (h : TRow B w (.slice (some ⟨g, 0, none⟩) n c) L) (k : Nat) (hk : k < L.length) (x : Tk) :
    TRow B (put4 w g k x) (.slice (some ⟨g, 0, none⟩) n c) (L.set k x) := by
  have hn := trow_len h
  subst hn
  unfold TRow put4
  rw [List.length_set, flat4_set L k x hk]
  exact (World.ownsRow.stored (World.ownsRow.stored (World.ownsRow.stored (World.ownsRow.stored h (k * 4) _).1 (k * 4 + 1) _).1 (k * 4 + 2) _).1 (k * 4 + 3) _).1
theorem TRow.frozen {B g n c : Nat} {w : World} {L : List Tk} (h : TRow B w (.slice (some ⟨g, 0, none⟩) n c) L) (j : Nat) : w.frozen? ⟨g, j, none⟩ = false := by
  have hn := trow_len h
  subst hn
  exact World.ownsRow.frozenAt h j
theorem trow_shape {B : Nat} {w : World} {v : Value} {L : List Tk} (h : TRow B w v L) (h0 : 0 < L.length) : ∃ g c, v = .slice (some ⟨g, 0, none⟩) L.length c ∧ B ≤ g ∧ g < w.heap.size ∧
    ∀ i, i < L.length → w.cell? ⟨g, i * 4, none⟩ = some (.int .i64 (tk L i).k) ∧ w.cell? ⟨g, i * 4 + 1, none⟩ = some (.string (tx (tk L i).t)) ∧ w.cell? ⟨g, i * 4 + 2, none⟩ = some (.int .i64 (tk L i).n) ∧ w.cell? ⟨g, i * 4 + 3, none⟩ = some (.int .i64 (tk L i).p) := by
  have hlt := World.ownsRow.lt h
  rcases h.2 with ⟨rfl, h1⟩ | ⟨g, cap, cur, rfl, hb, hg, hnc, _⟩
  · omega
  · refine ⟨g, _, rfl, hb, (hlt g rfl).2, fun i hi => ?_⟩
    have := flat4_at L i hi
    rw [tk_at L i hi, World.ownsRow.cellAt h (i * 4) (by omega), World.ownsRow.cellAt h (i * 4 + 1) (by omega), World.ownsRow.cellAt h (i * 4 + 2) (by omega), World.ownsRow.cellAt h (i * 4 + 3) (by omega)]
    exact this
end Go.Proofs.YtaengcbjpniclaaGreatDoor.Lx
