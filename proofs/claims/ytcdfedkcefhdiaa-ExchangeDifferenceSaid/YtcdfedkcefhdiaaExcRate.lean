/- Rows of rates of the call's own. -/
import Derived.Test.YtcdfedkcefhdiaaExcOpen
namespace Go.Proofs.Ytcdfedkcefhdiaa.Exc
open Go.RowKit Go.Lib Go.Proofs.Ytcdfedkcefhdiaa.Bas Go.Proofs.Ytcdfedkcefhdiaa.Spl
set_option linter.unusedVariables false

/-- The cells of rates. -/
def flat3 (L : List Rt) : List Value := L.flatMap fun p => [.int .i64 p.c, .int .i64 p.f, .int .i64 p.p]
theorem flat3_length (L : List Rt) : (flat3 L).length = L.length * 3 := by
  induction L with
  | nil => rfl
  | cons p r ih => simp [flat3] at *; omega
theorem flat3_append (L M : List Rt) : flat3 (L ++ M) = flat3 L ++ flat3 M := by simp [flat3]
theorem flat3_at (L : List Rt) : ∀ (i : Nat) (h : i < L.length), (flat3 L)[i * 3]? = some (.int .i64 L[i].c) ∧ (flat3 L)[i * 3 + 1]? = some (.int .i64 L[i].f) ∧ (flat3 L)[i * 3 + 2]? = some (.int .i64 L[i].p) := by
  induction L with
  | nil => intro i h; simp at h
  | cons p r ih =>
    intro i h
    cases i with
    | zero => simp [flat3]
    | succ i =>
      have := ih i (by simpa using h)
      have e : flat3 (p :: r) = .int .i64 p.c :: .int .i64 p.f :: .int .i64 p.p :: flat3 r := by simp [flat3]
      rw [e, show (i + 1) * 3 = i * 3 + 1 + 1 + 1 by omega]
      simpa using this
theorem flat3_of (L : List Rt) (j : Nat) (u : Value) (h : (flat3 L)[j]? = some u) : ∃ i, i < L.length ∧ ((j = i * 3 ∧ u = .int .i64 (rt L i).c) ∨ (j = i * 3 + 1 ∧ u = .int .i64 (rt L i).f) ∨ (j = i * 3 + 2 ∧ u = .int .i64 (rt L i).p)) := by
  have hj : j < L.length * 3 := by
    have := (List.getElem?_eq_some_iff.1 h).1
    rw [flat3_length] at this; exact this
  have a := flat3_at L (j / 3) (by omega)
  refine ⟨j / 3, by omega, ?_⟩
  rw [rt_at L (j / 3) (by omega)]
  have hm : j % 3 = 0 ∨ j % 3 = 1 ∨ j % 3 = 2 := by omega
  rcases hm with e | e | e
  · left
    have e2 : j = j / 3 * 3 := by omega
    rw [e2, a.1] at h
    exact ⟨e2, (Option.some.inj h).symm⟩
  · right; left
    have e2 : j = j / 3 * 3 + 1 := by omega
    rw [e2, a.2.1] at h
    exact ⟨e2, (Option.some.inj h).symm⟩
  · right; right
    have e2 : j = j / 3 * 3 + 2 := by omega
    rw [e2, a.2.2] at h
    exact ⟨e2, (Option.some.inj h).symm⟩
/-- A row of rates of the call's own. -/
def RRow (B : Nat) (w : World) (v : Value) (L : List Rt) : Prop := w.ownsRow B 35 3 v L.length (flat3 L)
theorem rrow_nil (B : Nat) (w : World) : RRow B w (.slice none 0 0) [] := World.ownsRow_nil w B _ 3
theorem RRow.at {B : Nat} {w : World} {v : Value} {L : List Rt} (h : RRow B w v L) : RatesAt w v L := by
  have hlt := World.ownsRow.lt h
  rcases h.2 with ⟨rfl, h0⟩ | ⟨g, cap, cur, rfl, hb, hg, hnc, _⟩
  · exact ⟨none, 0, by rw [h0], ⟨by omega, fun _ => rfl⟩, fun h => by omega⟩
  · refine ⟨_, _, rfl, ⟨hnc, fun e => by cases e⟩, fun _ => ⟨g, 0, rfl, fun i hi => ?_⟩⟩
    have := flat3_at L i hi
    rw [Nat.zero_add, rt_at L i hi, World.ownsRow.cellAt h (i * 3) (by omega), World.ownsRow.cellAt h (i * 3 + 1) (by omega), World.ownsRow.cellAt h (i * 3 + 2) (by omega)]
    exact this
theorem RRow.below {B C : Nat} {w w' : World} {v : Value} {L : List Rt} (h : RRow B w v L) (hb : Below C w w') (hC : ∀ g, v.ownBlock = some g → g < C) : RRow B w' v L := by
  obtain ⟨h1, h2⟩ := h
  refine ⟨h1, ?_⟩
  rcases h2 with h2 | ⟨g, cap, cur, hv, hg, hh, r⟩
  · exact Or.inl h2
  · exact Or.inr ⟨g, cap, cur, hv, hg, by rw [hb.block g (hC g (by subst hv; rfl))]; exact hh, r⟩
theorem RRow.keep {B : Nat} {w w' : World} {v : Value} {L : List Rt} (h : RRow B w v L) (hb : Below w.heap.size w w') : RRow B w' v L :=
  h.below hb fun g hg => (World.ownsRow.lt h g hg).2
theorem RRow.mono {B B' : Nat} {w : World} {v : Value} {L : List Rt} (h : RRow B w v L) (hB : B' ≤ B) : RRow B' w v L := Go.Joins.ownsRow_le h hB
theorem RRow.block {B : Nat} {w : World} {v : Value} {L : List Rt} (h : RRow B w v L) : ∀ g, v.ownBlock = some g → B ≤ g ∧ g < w.heap.size := World.ownsRow.lt h
theorem RRow.alloc {B : Nat} {w : World} {v : Value} {L : List Rt} (h : RRow B w v L) (o : Obj) : RRow B (w.alloc o) v L := World.ownsRow.alloc h o
theorem info_rate : ∃ i, Try.prog.info? 35 = some i ∧ i.zero = some (.agg #[.int .i64 0, .int .i64 0, .int .i64 0]) ∧ i.size = 3 ∧ i.bytes = 24 := by
  have h : (Try.prog.info? 35).map (fun i => (i.zero, i.size, i.bytes)) = some (some (.agg #[.int .i64 0, .int .i64 0, .int .i64 0]), 3, 24) := by kernel_rfl
  cases hh : Try.prog.info? 35 with
  | none => rw [hh] at h; simp at h
  | some i => rw [hh] at h; simp at h; exact ⟨i, rfl, h.1, h.2.1, h.2.2⟩
/-- append of rates that lie in this world. -/
theorem wpList_append_rates {w : World} {ops : Array Oper} {rest : List Oper} {o : Oper} {a : Act} {Q : Exit → Act → World → Prop} (hgd : o.guard = none) (s x : Operand)
    (ho : o.op = .call { callee := .builtin .append, args := #[s, x], argTypes := #[22, 22] })
    (B : Nat) (v : Value) (L : List Rt) (hs : a.eval s = v) (hrow : RRow B w v L) (u : Value) (M : List Rt) (hx : a.eval x = u) (hM : RatesAt w u M)
    (hlen : L.length + M.length ≤ 1000000) (hB : B ≤ w.heap.size)
    (h : ∀ v' w', RRow B w' v' (L ++ M) → w.grownBy w' v.ownBlock → wpList Try.prog ops Q rest (a.put o.dst v') w') : wpList Try.prog ops Q (o :: rest) a w := by
  obtain ⟨i, hi, hz, hsz, hby⟩ := info_rate
  obtain ⟨p, c, rfl, hcap, hp⟩ := hM
  cases p with
  | none =>
    have hM0 : M = [] := by
      cases M with
      | nil => rfl
      | cons x r => obtain ⟨b, off, e, _⟩ := hp (by simp); cases e
    subst hM0
    obtain rfl := hcap.2 rfl
    refine wpList_append_own_none hgd s x 22 ho B 35 i 3 Try.underlying22 hi v L.length (flat3 L) hs hrow hx (h v w (by rw [List.append_nil]; exact hrow) (World.grownBy.refl w _))
  | some ad =>
    have hcell : ∀ j y, (flat3 M)[j]? = some y → w.cell? (ad.add j) = some y := fun j y hj => by
      obtain ⟨k, hk, hh⟩ := flat3_of M j y hj
      obtain ⟨b, off, e, hc⟩ := hp (by omega)
      cases e
      rcases hh with ⟨rfl, rfl⟩ | ⟨rfl, rfl⟩ | ⟨rfl, rfl⟩
      · rw [Go.WideShapes.add_plain]; exact (hc k hk).1
      · rw [Go.WideShapes.add_plain, ← Nat.add_assoc]; exact (hc k hk).2.1
      · rw [Go.WideShapes.add_plain, ← Nat.add_assoc]; exact (hc k hk).2.2
    refine wpList_append_own _ hgd s x 22 ho B 35 i (.agg #[.int .i64 0, .int .i64 0, .int .i64 0]) 3 24 Try.underlying22 hi hz hsz hby rfl (by decide) v L.length (flat3 L) hs hrow ad M.length c (flat3 M) hx (flat3_length M) hcell ?_ (by unfold maxLen; omega) (by omega) hB ?_
    · intro y hy
      obtain ⟨j, hj⟩ := List.getElem?_of_mem hy
      obtain ⟨k, hk, ⟨_, rfl⟩ | ⟨_, rfl⟩ | ⟨_, rfl⟩⟩ := flat3_of M j y hj <;> rfl
    · intro v' w' hown hg _
      refine h v' w' ?_ hg
      unfold RRow
      rw [List.length_append, flat3_append]
      exact hown
/-- One rate that was just laid. -/
theorem rate_one (w : World) (x : Rt) : RatesAt (w.alloc (.cells #[.int .i64 x.c, .int .i64 x.f, .int .i64 x.p] 35)) (.slice (some ⟨w.heap.size, 0, none⟩) 1 1) [x] :=
  ⟨_, _, rfl, ⟨Nat.le_refl _, fun e => by cases e⟩, fun _ => ⟨w.heap.size, 0, rfl, fun j hj => by
    obtain rfl : j = 0 := by simpa using hj
    simp [rt]⟩⟩
end Go.Proofs.Ytcdfedkcefhdiaa.Exc
