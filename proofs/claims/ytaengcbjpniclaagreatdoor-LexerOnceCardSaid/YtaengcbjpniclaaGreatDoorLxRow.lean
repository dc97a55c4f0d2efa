/- Lists of tokens in memory: read, and rows of the call's own. -/
import Derived.Test.YtaengcbjpniclaaGreatDoorLxFst
namespace Go.Proofs.YtaengcbjpniclaaGreatDoor.Lx
open Go.RowKit Go.Lib Go.Proofs.YtaengcbjpniclaaGreatDoor.Bas Go.Proofs.YtaengcbjpniclaaGreatDoor.Cal
set_option linter.unusedVariables false

def tk (L : List Tk) (i : Nat) : Tk := L.getD i z0
theorem tk_at (L : List Tk) (i : Nat) (h : i < L.length) : tk L i = L[i] := by
  unfold tk; rw [List.getD_eq_getElem?_getD, List.getElem?_eq_getElem h]; rfl
/-- The value reads as the tokens l, in this world. -/
def TksAt (w : World) (v : Value) (l : List Tk) : Prop :=
  ∃ p c, v = .slice p l.length c ∧ (l.length ≤ c ∧ (p = none → c = 0)) ∧ (0 < l.length → ∃ b off, p = some ⟨b, off, none⟩ ∧ ∀ j, j < l.length → w.cell? ⟨b, off + j * 4, none⟩ = some (.int .i64 (tk l j).k) ∧ w.cell? ⟨b, off + j * 4 + 1, none⟩ = some (.string (tx (tk l j).t)) ∧ w.cell? ⟨b, off + j * 4 + 2, none⟩ = some (.int .i64 (tk l j).n) ∧ w.cell? ⟨b, off + j * 4 + 3, none⟩ = some (.int .i64 (tk l j).p))
theorem TksAt.below {w w' : World} {v : Value} {l : List Tk} (h : TksAt w v l) (hb : Below w.heap.size w w') : TksAt w' v l := by
  obtain ⟨p, c, rfl, hc, hp⟩ := h
  refine ⟨p, c, rfl, hc, fun h0 => ?_⟩
  obtain ⟨b, off, rfl, hh⟩ := hp h0
  have hlt : b < w.heap.size := World.block_lt_of_cell? _ _ (hh 0 h0).1
  exact ⟨b, off, rfl, fun j hj => by rw [hb.cell (p := ⟨b, off + j * 4, none⟩) hlt, hb.cell (p := ⟨b, off + j * 4 + 1, none⟩) hlt, hb.cell (p := ⟨b, off + j * 4 + 2, none⟩) hlt, hb.cell (p := ⟨b, off + j * 4 + 3, none⟩) hlt]; exact hh j hj⟩
theorem tksAt_nil (w : World) : TksAt w (.slice none 0 0) [] := ⟨none, 0, rfl, ⟨Nat.le_refl _, fun _ => rfl⟩, fun h => by simp at h⟩
/-- The cells of tokens. -/
def flat4 (L : List Tk) : List Value := L.flatMap fun p => [.int .i64 p.k, .string (tx p.t), .int .i64 p.n, .int .i64 p.p]
theorem flat4_cons (p : Tk) (r : List Tk) : flat4 (p :: r) = .int .i64 p.k :: .string (tx p.t) :: .int .i64 p.n :: .int .i64 p.p :: flat4 r := by simp [flat4]
theorem flat4_length (L : List Tk) : (flat4 L).length = L.length * 4 := by
  induction L with
  | nil => rfl
  | cons p r ih => rw [flat4_cons]; simp only [List.length_cons]; omega
theorem flat4_append (L M : List Tk) : flat4 (L ++ M) = flat4 L ++ flat4 M := by simp [flat4]
theorem flat4_at (L : List Tk) : ∀ (i : Nat) (h : i < L.length), (flat4 L)[i * 4]? = some (.int .i64 L[i].k) ∧ (flat4 L)[i * 4 + 1]? = some (.string (tx L[i].t)) ∧ (flat4 L)[i * 4 + 2]? = some (.int .i64 L[i].n) ∧ (flat4 L)[i * 4 + 3]? = some (.int .i64 L[i].p) := by
  induction L with
  | nil => intro i h; simp at h
  | cons p r ih =>
    intro i h
    rw [flat4_cons]
    cases i with
    | zero => simp
    | succ i =>
      have := ih i (by simpa using h)
      rw [show (i + 1) * 4 = i * 4 + 1 + 1 + 1 + 1 by omega]
      simpa using this
theorem flat4_of (L : List Tk) (j : Nat) (u : Value) (h : (flat4 L)[j]? = some u) : ∃ i, i < L.length ∧ ((j = i * 4 ∧ u = .int .i64 (tk L i).k) ∨ (j = i * 4 + 1 ∧ u = .string (tx (tk L i).t)) ∨ (j = i * 4 + 2 ∧ u = .int .i64 (tk L i).n) ∨ (j = i * 4 + 3 ∧ u = .int .i64 (tk L i).p)) := by
  have hj : j < L.length * 4 := by
    have := (List.getElem?_eq_some_iff.1 h).1
    rw [flat4_length] at this; exact this
  have a := flat4_at L (j / 4) (by omega)
  refine ⟨j / 4, by omega, ?_⟩
  rw [tk_at L (j / 4) (by omega)]
  have hm : j % 4 = 0 ∨ j % 4 = 1 ∨ j % 4 = 2 ∨ j % 4 = 3 := by omega
  rcases hm with e | e | e | e
  · left
    have e2 : j = j / 4 * 4 := by omega
    rw [e2, a.1] at h
    exact ⟨e2, (Option.some.inj h).symm⟩
  · right; left
    have e2 : j = j / 4 * 4 + 1 := by omega
    rw [e2, a.2.1] at h
    exact ⟨e2, (Option.some.inj h).symm⟩
  · right; right; left
    have e2 : j = j / 4 * 4 + 2 := by omega
    rw [e2, a.2.2.1] at h
    exact ⟨e2, (Option.some.inj h).symm⟩
  · right; right; right
    have e2 : j = j / 4 * 4 + 3 := by omega
    rw [e2, a.2.2.2] at h
    exact ⟨e2, (Option.some.inj h).symm⟩
/-- A row of tokens of the call's own. -/
def TRow (B : Nat) (w : World) (v : Value) (L : List Tk) : Prop := w.ownsRow B 25 4 v L.length (flat4 L)
theorem trow_nil (B : Nat) (w : World) : TRow B w (.slice none 0 0) [] := World.ownsRow_nil w B _ 4
theorem TRow.at {B : Nat} {w : World} {v : Value} {L : List Tk} (h : TRow B w v L) : TksAt w v L := by
  have hlt := World.ownsRow.lt h
  rcases h.2 with ⟨rfl, h0⟩ | ⟨g, cap, cur, rfl, hb, hg, hnc, _⟩
  · exact ⟨none, 0, by rw [h0], ⟨by omega, fun _ => rfl⟩, fun h => by omega⟩
  · refine ⟨_, _, rfl, ⟨hnc, fun e => by cases e⟩, fun _ => ⟨g, 0, rfl, fun i hi => ?_⟩⟩
    have := flat4_at L i hi
    rw [Nat.zero_add, tk_at L i hi, World.ownsRow.cellAt h (i * 4) (by omega), World.ownsRow.cellAt h (i * 4 + 1) (by omega), World.ownsRow.cellAt h (i * 4 + 2) (by omega), World.ownsRow.cellAt h (i * 4 + 3) (by omega)]
    exact this
theorem TRow.below {B C : Nat} {w w' : World} {v : Value} {L : List Tk} (h : TRow B w v L) (hb : Below C w w') (hC : ∀ g, v.ownBlock = some g → g < C) : TRow B w' v L := by
  obtain ⟨h1, h2⟩ := h
  refine ⟨h1, ?_⟩
  rcases h2 with h2 | ⟨g, cap, cur, hv, hg, hh, r⟩
  · exact Or.inl h2
  · exact Or.inr ⟨g, cap, cur, hv, hg, by rw [hb.block g (hC g (by subst hv; rfl))]; exact hh, r⟩
theorem TRow.keep {B : Nat} {w w' : World} {v : Value} {L : List Tk} (h : TRow B w v L) (hb : Below w.heap.size w w') : TRow B w' v L :=
  h.below hb fun g hg => (World.ownsRow.lt h g hg).2
theorem TRow.mono {B B' : Nat} {w : World} {v : Value} {L : List Tk} (h : TRow B w v L) (hB : B' ≤ B) : TRow B' w v L := Go.Joins.ownsRow_le h hB
theorem TRow.block {B : Nat} {w : World} {v : Value} {L : List Tk} (h : TRow B w v L) : ∀ g, v.ownBlock = some g → B ≤ g ∧ g < w.heap.size := World.ownsRow.lt h
theorem TRow.alloc {B : Nat} {w : World} {v : Value} {L : List Tk} (h : TRow B w v L) (o : Obj) : TRow B (w.alloc o) v L := World.ownsRow.alloc h o
/-- A store into another block. -/
theorem TRow.other {B b o : Nat} {w : World} {v : Value} {L : List Tk} (h : TRow B w v L) (hb : v.ownBlock ≠ some b) (u : Value) : TRow B (w.setCell ⟨b, o, none⟩ u) v L := by
  obtain ⟨h1, h2⟩ := h
  refine ⟨h1, ?_⟩
  rcases h2 with h2 | ⟨g, cap, cur, hv, hg, hh, r⟩
  · exact Or.inl h2
  · refine Or.inr ⟨g, cap, cur, hv, hg, ?_, r⟩
    rw [Below.heap_setCell _ _ _ _ (fun e => hb (by subst hv; rw [show g = b from e]; rfl))]; exact hh
theorem info_token : ∃ i, Tryz.prog.info? 25 = some i ∧ i.zero = some (.agg #[.int .i64 0, .string { data := #[] }, .int .i64 0, .int .i64 0]) ∧ i.size = 4 ∧ i.bytes = 40 := by
  cases hh : Tryz.prog.info? 25 with
  | none =>
    have h : (Tryz.prog.info? 25).isSome = true := by kernel_rfl
    rw [hh] at h; cases h
  | some i =>
    have h1 : (Tryz.prog.info? 25).map (fun i => i.zero) = some (some (.agg #[.int .i64 0, .string { data := #[] }, .int .i64 0, .int .i64 0])) := by kernel_rfl
    have h2 : (Tryz.prog.info? 25).map (fun i => (i.size, i.bytes)) = some (4, 40) := by kernel_rfl
    rw [hh] at h1 h2
    simp only [Option.map_some, Option.some.injEq, Prod.mk.injEq] at h1 h2
    exact ⟨i, rfl, h1, h2.1, h2.2⟩
/-- append of tokens that lie in this world. -/
theorem wpList_append_tokens {w : World} {ops : Array Oper} {rest : List Oper} {o : Oper} {a : Act} {Q : Exit → Act → World → Prop} (hgd : o.guard = none) (s x : Operand)
    (ho : o.op = .call { callee := .builtin .append, args := #[s, x], argTypes := #[22, 22] })
    (B : Nat) (v : Value) (L : List Tk) (hs : a.eval s = v) (hrow : TRow B w v L) (u : Value) (M : List Tk) (hx : a.eval x = u) (hM : TksAt w u M)
    (hlen : L.length + M.length ≤ 1000000) (hB : B ≤ w.heap.size)
    (h : ∀ v' w', TRow B w' v' (L ++ M) → w.grownBy w' v.ownBlock → wpList Tryz.prog ops Q rest (a.put o.dst v') w') : wpList Tryz.prog ops Q (o :: rest) a w := by
  obtain ⟨i, hi, hz, hsz, hby⟩ := info_token
  obtain ⟨p, c, rfl, hcap, hp⟩ := hM
  cases p with
  | none =>
    have hM0 : M = [] := by
      cases M with
      | nil => rfl
      | cons x r => obtain ⟨b, off, e, _⟩ := hp (by simp); cases e
    subst hM0
    obtain rfl := hcap.2 rfl
    refine wpList_append_own_none hgd s x 22 ho B 25 i 4 Tryz.underlying22 hi v L.length (flat4 L) hs hrow hx (h v w (by rw [List.append_nil]; exact hrow) (World.grownBy.refl w _))
  | some ad =>
    have hcell : ∀ j y, (flat4 M)[j]? = some y → w.cell? (ad.add j) = some y := fun j y hj => by
      obtain ⟨k, hk, hh⟩ := flat4_of M j y hj
      obtain ⟨b, off, e, hc⟩ := hp (by omega)
      cases e
      rcases hh with ⟨rfl, rfl⟩ | ⟨rfl, rfl⟩ | ⟨rfl, rfl⟩ | ⟨rfl, rfl⟩
      · rw [Go.WideShapes.add_plain]; exact (hc k hk).1
      · rw [Go.WideShapes.add_plain, ← Nat.add_assoc]; exact (hc k hk).2.1
      · rw [Go.WideShapes.add_plain, ← Nat.add_assoc]; exact (hc k hk).2.2.1
      · rw [Go.WideShapes.add_plain, ← Nat.add_assoc]; exact (hc k hk).2.2.2
    refine wpList_append_own _ hgd s x 22 ho B 25 i (.agg #[.int .i64 0, .string { data := #[] }, .int .i64 0, .int .i64 0]) 4 40 Tryz.underlying22 hi hz hsz hby rfl (by decide) v L.length (flat4 L) hs hrow ad M.length c (flat4 M) hx (flat4_length M) hcell ?_ (by unfold maxLen; omega) (by omega) hB ?_
    · intro y hy
      obtain ⟨j, hj⟩ := List.getElem?_of_mem hy
      obtain ⟨k, hk, ⟨_, rfl⟩ | ⟨_, rfl⟩ | ⟨_, rfl⟩ | ⟨_, rfl⟩⟩ := flat4_of M j y hj <;> rfl
    · intro v' w' hown hg _
      refine h v' w' ?_ hg
      unfold TRow
      rw [List.length_append, flat4_append]
      exact hown
/-- One token that was just laid. -/
theorem token_one (w : World) (x : Tk) : TksAt (w.alloc (.cells #[.int .i64 x.k, .string (tx x.t), .int .i64 x.n, .int .i64 x.p] 25)) (.slice (some ⟨w.heap.size, 0, none⟩) 1 1) [x] :=
  ⟨_, _, rfl, ⟨Nat.le_refl _, fun e => by cases e⟩, fun _ => ⟨w.heap.size, 0, rfl, fun j hj => by
    obtain rfl : j = 0 := by simpa using hj
    simp [tk]⟩⟩
end Go.Proofs.YtaengcbjpniclaaGreatDoor.Lx
