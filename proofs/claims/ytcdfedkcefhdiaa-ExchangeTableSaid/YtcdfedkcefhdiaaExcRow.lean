/- Rows of amounts of money of the call's own. -/
import Derived.Test.YtcdfedkcefhdiaaExcRef2
namespace Go.Proofs.Ytcdfedkcefhdiaa.Exc
open Go.RowKit Go.Lib Go.Proofs.Ytcdfedkcefhdiaa.Bas Go.Proofs.Ytcdfedkcefhdiaa.Spl
set_option linter.unusedVariables false

/-- The cells of amounts. -/
def flat2 (L : List Cs) : List Value := L.flatMap fun p => [.int .i64 p.c, .int .i64 p.a]
theorem flat2_length (L : List Cs) : (flat2 L).length = L.length * 2 := by
  induction L with
  | nil => rfl
  | cons p r ih => simp [flat2] at *; omega
theorem flat2_append (L M : List Cs) : flat2 (L ++ M) = flat2 L ++ flat2 M := by simp [flat2]
theorem flat2_snoc (L : List Cs) (p : Cs) : flat2 (L ++ [p]) = flat2 L ++ [.int .i64 p.c, .int .i64 p.a] := by simp [flat2]
theorem flat2_at (L : List Cs) : ∀ (i : Nat) (h : i < L.length), (flat2 L)[i * 2]? = some (.int .i64 L[i].c) ∧ (flat2 L)[i * 2 + 1]? = some (.int .i64 L[i].a) := by
  induction L with
  | nil => intro i h; simp at h
  | cons p r ih =>
    intro i h
    cases i with
    | zero => simp [flat2]
    | succ i =>
      have := ih i (by simpa using h)
      have e : flat2 (p :: r) = .int .i64 p.c :: .int .i64 p.a :: flat2 r := by simp [flat2]
      rw [e, show (i + 1) * 2 = i * 2 + 1 + 1 by omega]
      simpa using this
theorem flat2_of (L : List Cs) (j : Nat) (u : Value) (h : (flat2 L)[j]? = some u) : ∃ i, i < L.length ∧ ((j = i * 2 ∧ u = .int .i64 (cs L i).c) ∨ (j = i * 2 + 1 ∧ u = .int .i64 (cs L i).a)) := by
  have hj : j < L.length * 2 := by
    have := (List.getElem?_eq_some_iff.1 h).1
    rw [flat2_length] at this; exact this
  have a := flat2_at L (j / 2) (by omega)
  refine ⟨j / 2, by omega, ?_⟩
  rw [cs_at L (j / 2) (by omega)]
  by_cases e : j % 2 = 0
  · left
    have e2 : j = j / 2 * 2 := by omega
    rw [e2, a.1] at h
    exact ⟨e2, (Option.some.inj h).symm⟩
  · right
    have e2 : j = j / 2 * 2 + 1 := by omega
    rw [e2, a.2] at h
    exact ⟨e2, (Option.some.inj h).symm⟩
/-- A row of amounts of the call's own. -/
def CRow (B : Nat) (w : World) (v : Value) (L : List Cs) : Prop := w.ownsRow B 40 2 v L.length (flat2 L)
theorem crow_nil (B : Nat) (w : World) : CRow B w (.slice none 0 0) [] := World.ownsRow_nil w B _ 2
theorem CRow.at {B : Nat} {w : World} {v : Value} {L : List Cs} (h : CRow B w v L) : CashAt w v L := by
  have hlt := World.ownsRow.lt h
  rcases h.2 with ⟨rfl, h0⟩ | ⟨g, cap, cur, rfl, hb, hg, hnc, _⟩
  · exact ⟨none, 0, by rw [h0], ⟨by omega, fun _ => rfl⟩, fun h => by omega⟩
  · refine ⟨_, _, rfl, ⟨hnc, fun e => by cases e⟩, fun _ => ⟨g, 0, rfl, fun i hi => ?_⟩⟩
    have := flat2_at L i hi
    rw [Nat.zero_add, cs_at L i hi, World.ownsRow.cellAt h (i * 2) (by omega), World.ownsRow.cellAt h (i * 2 + 1) (by omega)]
    exact this
theorem CRow.below {B C : Nat} {w w' : World} {v : Value} {L : List Cs} (h : CRow B w v L) (hb : Below C w w') (hC : ∀ g, v.ownBlock = some g → g < C) : CRow B w' v L := by
  obtain ⟨h1, h2⟩ := h
  refine ⟨h1, ?_⟩
  rcases h2 with h2 | ⟨g, cap, cur, hv, hg, hh, r⟩
  · exact Or.inl h2
  · exact Or.inr ⟨g, cap, cur, hv, hg, by rw [hb.block g (hC g (by subst hv; rfl))]; exact hh, r⟩
theorem CRow.keep {B : Nat} {w w' : World} {v : Value} {L : List Cs} (h : CRow B w v L) (hb : Below w.heap.size w w') : CRow B w' v L :=
  h.below hb fun g hg => (World.ownsRow.lt h g hg).2
theorem CRow.mono {B B' : Nat} {w : World} {v : Value} {L : List Cs} (h : CRow B w v L) (hB : B' ≤ B) : CRow B' w v L := Go.Joins.ownsRow_le h hB
theorem info_cash : ∃ i, Try.prog.info? 40 = some i ∧ i.zero = some (.agg #[.int .i64 0, .int .i64 0]) ∧ i.size = 2 ∧ i.bytes = 16 := by
  have h : (Try.prog.info? 40).map (fun i => (i.zero, i.size, i.bytes)) = some (some (.agg #[.int .i64 0, .int .i64 0]), 2, 16) := by kernel_rfl
  cases hh : Try.prog.info? 40 with
  | none => rw [hh] at h; simp at h
  | some i => rw [hh] at h; simp at h; exact ⟨i, rfl, h.1, h.2.1, h.2.2⟩
/-- append of amounts that lie in this world. -/
theorem wpList_append_cash {w : World} {ops : Array Oper} {rest : List Oper} {o : Oper} {a : Act} {Q : Exit → Act → World → Prop} (hgd : o.guard = none) (s x : Operand)
    (ho : o.op = .call { callee := .builtin .append, args := #[s, x], argTypes := #[42, 42] })
    (B : Nat) (v : Value) (L : List Cs) (hs : a.eval s = v) (hrow : CRow B w v L) (u : Value) (M : List Cs) (hx : a.eval x = u) (hM : CashAt w u M)
    (hlen : L.length + M.length ≤ 1000000) (hB : B ≤ w.heap.size)
    (h : ∀ v' w', CRow B w' v' (L ++ M) → w.grownBy w' v.ownBlock → wpList Try.prog ops Q rest (a.put o.dst v') w') : wpList Try.prog ops Q (o :: rest) a w := by
  obtain ⟨i, hi, hz, hsz, hby⟩ := info_cash
  obtain ⟨p, c, rfl, hcap, hp⟩ := hM
  cases p with
  | none =>
    have hM0 : M = [] := by
      cases M with
      | nil => rfl
      | cons x r => obtain ⟨b, off, e, _⟩ := hp (by simp); cases e
    subst hM0
    obtain rfl := hcap.2 rfl
    refine wpList_append_own_none hgd s x 42 ho B 40 i 2 Try.underlying42 hi v L.length (flat2 L) hs hrow hx (h v w (by rw [List.append_nil]; exact hrow) (World.grownBy.refl w _))
  | some ad =>
    have hcell : ∀ j y, (flat2 M)[j]? = some y → w.cell? (ad.add j) = some y := fun j y hj => by
      obtain ⟨k, hk, hh⟩ := flat2_of M j y hj
      obtain ⟨b, off, e, hc⟩ := hp (by omega)
      cases e
      rcases hh with ⟨rfl, rfl⟩ | ⟨rfl, rfl⟩
      · rw [Go.WideShapes.add_plain]; exact (hc k hk).1
      · rw [Go.WideShapes.add_plain, ← Nat.add_assoc]; exact (hc k hk).2
    refine wpList_append_own _ hgd s x 42 ho B 40 i (.agg #[.int .i64 0, .int .i64 0]) 2 16 Try.underlying42 hi hz hsz hby rfl (by decide) v L.length (flat2 L) hs hrow ad M.length c (flat2 M) hx (flat2_length M) hcell ?_ (by unfold maxLen; omega) (by omega) hB ?_
    · intro y hy
      obtain ⟨j, hj⟩ := List.getElem?_of_mem hy
      obtain ⟨k, hk, ⟨_, rfl⟩ | ⟨_, rfl⟩⟩ := flat2_of M j y hj <;> rfl
    · intro v' w' hown hg _
      refine h v' w' ?_ hg
      unfold CRow
      rw [List.length_append, flat2_append]
      exact hown
/-- One amount that was just laid. -/
theorem cash_one (w : World) (x : Cs) : CashAt (w.alloc (.cells #[.int .i64 x.c, .int .i64 x.a] 40)) (.slice (some ⟨w.heap.size, 0, none⟩) 1 1) [x] :=
  ⟨_, _, rfl, ⟨Nat.le_refl _, fun e => by cases e⟩, fun _ => ⟨w.heap.size, 0, rfl, fun j hj => by
    obtain rfl : j = 0 := by simpa using hj
    simp [cs]⟩⟩
theorem CRow.alloc {B : Nat} {w : World} {v : Value} {L : List Cs} (h : CRow B w v L) (o : Obj) : CRow B (w.alloc o) v L := World.ownsRow.alloc h o

def okB (n : Int) : Bool := decide (okI n)
theorem rvalid_any (n : Int) (w : World) (b : Bool) (hb : okB n = b) : Calls Try.prog 36 #[.int .i64 n] w fun e w' => e = .returned (.bool b) ∧ w = w' := by
  subst hb
  by_cases h0 : -17592186044416 ≤ n
  · have t0 : decide (-17592186044416 ≤ n) = true := decide_eq_true h0
    by_cases h1 : n ≤ 17592186044416
    · rw [show okB n = true from decide_eq_true (show okI n from ⟨h0, h1⟩)]
      have t1 : decide (n ≤ 17592186044416) = true := decide_eq_true h1
      clear h0 h1
      go_enter Try.func36, Try.ntmps36
      go_wp2
      go_ret
      exact ⟨rfl, rfl⟩
    · rw [show okB n = false from decide_eq_false (fun h => h1 h.2)]
      have t1 : decide (n ≤ 17592186044416) = false := decide_eq_false h1
      clear h0 h1
      go_enter Try.func36, Try.ntmps36
      go_wp2
      go_ret
      exact ⟨rfl, rfl⟩
  · rw [show okB n = false from decide_eq_false (fun h => h0 h.1)]
    have t0 : decide (-17592186044416 ≤ n) = false := decide_eq_false h0
    clear h0
    go_enter Try.func36, Try.ntmps36
    go_wp2
    go_ret
    exact ⟨rfl, rfl⟩

/-- A bool; the world but for draws. -/
def BoolDr (b : Bool) (w : World) (e : Ending) (w' : World) : Prop := e = .returned (.bool b) ∧ Dr w w'
set_option maxHeartbeats 4000000 in
theorem same_yes (v u : Value) (l : List Cs) (w : World) (hv : CashAt w v l) (hu : CashAt w u l) (hl : l.length ≤ 1000000) : Calls Try.prog 22 #[v, u] w (BoolDr true w) := by
  obtain ⟨n, hn⟩ : ∃ n, l.length = n := ⟨_, rfl⟩
  obtain ⟨p, c, rfl, -, hp⟩ := hv
  obtain ⟨q, d, rfl, -, hq⟩ := hu
  rw [hn] at hp hq hl ⊢
  have hp' := Lib.hid hp
  have hq' := Lib.hid hq
  clear hp hq hn
  go_enter Try.func22, Try.ntmps22
  go_wp2_with fail
  go_loopw [5] (fun i wr => ∃ k : Nat, k ≤ n ∧ i = .int .i64 k ∧ Hid (Dr w wr)) (fun i _ => n - (intOf i).toNat)
  case atStart => exact ⟨0, Nat.zero_le _, rfl, Lib.hid (Dr.refl _)⟩
  case round =>
    obtain ⟨k, hk, rfl, hDr⟩ := hrel
    obtain ⟨nd, rfl⟩ := hDr.out
    by_cases hlt : k < n
    · obtain ⟨b, off, rfl, hc⟩ := hp'.out (by omega)
      obtain ⟨b2, off2, rfl, hc2⟩ := hq'.out (by omega)
      obtain ⟨y0, y1⟩ := hc k hlt
      obtain ⟨z0, z1⟩ := hc2 k hlt
      clear hc hc2
      generalize (cs l k).c = C at *
      generalize (cs l k).a = A at *
      go_wp2_with fail
      go_quiet (fail)
      go_wp2_with fail
      go_roundw
      case rel => exact ⟨k + 1, by omega, by go_num, Lib.hid ⟨_, rfl⟩⟩
      case measure => simp [intOf]; omega
    · obtain rfl : k = n := by omega
      go_wp2_with fail
      go_ret
      exact ⟨rfl, hDr.out⟩
end Go.Proofs.Ytcdfedkcefhdiaa.Exc
