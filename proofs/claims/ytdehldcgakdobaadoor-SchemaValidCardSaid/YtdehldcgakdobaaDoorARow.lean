/- Rows of attributes of the call's own; a copy of a list of attributes; a store of a whole attribute; one attribute in a variable. -/
import Derived.Test.YtdehldcgakdobaaDoorSRow
import Derived.Test.YtdehldcgakdobaaDoorScSch
namespace Go.Proofs.YtdehldcgakdobaaDoor.Sc
open Go.RowKit Go.Lib Go.Proofs.YtdehldcgakdobaaDoor.Bas Go.Proofs.YtdehldcgakdobaaDoor.Cal Go.Proofs.YtdehldcgakdobaaDoor.Lx
set_option linter.unusedVariables false

/-- An attribute and the value of its words. -/
def p0 : At × Value := (a0, .slice none 0 0)
def pa (P : List (At × Value)) (i : Nat) : At × Value := P.getD i p0
theorem pa_at (P : List (At × Value)) (i : Nat) (h : i < P.length) : pa P i = P[i] := by
  unfold pa; rw [List.getD_eq_getElem?_getD, List.getElem?_eq_getElem h]; rfl
def five (p : At × Value) : List Value := [.string (tx p.1.nm), .int .i64 p.1.k, p.2, .int .i64 p.1.lo, .int .i64 p.1.hi]
def fl5 (P : List (At × Value)) : List Value := P.flatMap five
theorem fl5_cons (p : At × Value) (r : List (At × Value)) : fl5 (p :: r) = .string (tx p.1.nm) :: .int .i64 p.1.k :: p.2 :: .int .i64 p.1.lo :: .int .i64 p.1.hi :: fl5 r := by simp [fl5, five]
theorem fl5_length (P : List (At × Value)) : (fl5 P).length = P.length * 5 := by
  induction P with
  | nil => rfl
  | cons p r ih => rw [fl5_cons]; simp only [List.length_cons]; omega
theorem fl5_at (P : List (At × Value)) : ∀ (i : Nat) (h : i < P.length), (fl5 P)[i * 5]? = some (.string (tx P[i].1.nm)) ∧ (fl5 P)[i * 5 + 1]? = some (.int .i64 P[i].1.k) ∧ (fl5 P)[i * 5 + 2]? = some P[i].2 ∧ (fl5 P)[i * 5 + 3]? = some (.int .i64 P[i].1.lo) ∧ (fl5 P)[i * 5 + 4]? = some (.int .i64 P[i].1.hi) := by
  induction P with
  | nil => intro i h; simp at h
  | cons p r ih =>
    intro i h
    rw [fl5_cons]
    cases i with
    | zero => simp
    | succ i =>
      have := ih i (by simpa using h)
      rw [show (i + 1) * 5 = i * 5 + 1 + 1 + 1 + 1 + 1 by omega]
      simpa using this
theorem fl5_of (P : List (At × Value)) (j : Nat) (u : Value) (h : (fl5 P)[j]? = some u) : ∃ i, ∃ hi : i < P.length, (j = i * 5 ∧ u = .string (tx P[i].1.nm)) ∨ (j = i * 5 + 1 ∧ u = .int .i64 P[i].1.k) ∨ (j = i * 5 + 2 ∧ u = P[i].2) ∨ (j = i * 5 + 3 ∧ u = .int .i64 P[i].1.lo) ∨ (j = i * 5 + 4 ∧ u = .int .i64 P[i].1.hi) := by
  have hj : j < P.length * 5 := by
    have := (List.getElem?_eq_some_iff.1 h).1
    rw [fl5_length] at this; exact this
  have a := fl5_at P (j / 5) (by omega)
  refine ⟨j / 5, by omega, ?_⟩
  have hm : j % 5 = 0 ∨ j % 5 = 1 ∨ j % 5 = 2 ∨ j % 5 = 3 ∨ j % 5 = 4 := by omega
  rcases hm with e | e | e | e | e
  · left
    have e2 : j = j / 5 * 5 := by omega
    rw [e2, a.1] at h
    exact ⟨e2, (Option.some.inj h).symm⟩
  · right; left
    have e2 : j = j / 5 * 5 + 1 := by omega
    rw [e2, a.2.1] at h
    exact ⟨e2, (Option.some.inj h).symm⟩
  · right; right; left
    have e2 : j = j / 5 * 5 + 2 := by omega
    rw [e2, a.2.2.1] at h
    exact ⟨e2, (Option.some.inj h).symm⟩
  · right; right; right; left
    have e2 : j = j / 5 * 5 + 3 := by omega
    rw [e2, a.2.2.2.1] at h
    exact ⟨e2, (Option.some.inj h).symm⟩
  · right; right; right; right
    have e2 : j = j / 5 * 5 + 4 := by omega
    rw [e2, a.2.2.2.2] at h
    exact ⟨e2, (Option.some.inj h).symm⟩
theorem fl5_set (P : List (At × Value)) : ∀ (k : Nat) (x : At × Value), k < P.length → fl5 (P.set k x) = (((((fl5 P).set (k * 5) (.string (tx x.1.nm))).set (k * 5 + 1) (.int .i64 x.1.k)).set (k * 5 + 2) x.2).set (k * 5 + 3) (.int .i64 x.1.lo)).set (k * 5 + 4) (.int .i64 x.1.hi) := by
  induction P with
  | nil => intro k x h; simp at h
  | cons p r ih =>
    intro k x h
    cases k with
    | zero => rw [List.set_cons_zero, fl5_cons, fl5_cons]; rfl
    | succ k =>
      rw [List.set_cons_succ, fl5_cons, fl5_cons, ih k x (by simpa using h), show (k + 1) * 5 = k * 5 + 1 + 1 + 1 + 1 + 1 by omega]
      rfl
/-- The words of each are there. -/
def WordsAt (w : World) (P : List (At × Value)) : Prop := ∀ i, i < P.length → StrsAt w (pa P i).2 (pa P i).1.ws
theorem WordsAt.below {w w' : World} {P : List (At × Value)} (h : WordsAt w P) (hb : Below w.heap.size w w') : WordsAt w' P := fun i hi => (h i hi).below hb
theorem WordsAt.set {w : World} {P : List (At × Value)} (h : WordsAt w P) (k : Nat) (x : At × Value) (hx : StrsAt w x.2 x.1.ws) : WordsAt w (P.set k x) := by
  intro i hi
  have hi' : i < P.length := by simpa using hi
  by_cases e : k = i
  · subst e
    rw [pa_at _ _ hi, List.getElem_set_self]; exact hx
  · rw [pa_at _ _ hi, List.getElem_set_ne e, ← pa_at P i hi']; exact h i hi'
def ARow (B : Nat) (w : World) (v : Value) (P : List (At × Value)) : Prop := w.ownsRow B 27 5 v P.length (fl5 P)
theorem ARow.keep {B : Nat} {w w' : World} {v : Value} {P : List (At × Value)} (h : ARow B w v P) (hb : Below w.heap.size w w') : ARow B w' v P := own_keep h hb
theorem ARow.below {B C : Nat} {w w' : World} {v : Value} {P : List (At × Value)} (h : ARow B w v P) (hb : Below C w w') (hC : ∀ g, v.ownBlock = some g → g < C) : ARow B w' v P := own_below h hb hC
theorem ARow.block {B : Nat} {w : World} {v : Value} {P : List (At × Value)} (h : ARow B w v P) : ∀ g, v.ownBlock = some g → B ≤ g ∧ g < w.heap.size := World.ownsRow.lt h
theorem ARow.len {B g n c : Nat} {w : World} {P : List (At × Value)} (h : ARow B w (.slice (some ⟨g, 0, none⟩) n c) P) : n = P.length := by
  rcases h.2 with ⟨h', _⟩ | ⟨g', cap', cur, h', _⟩
  · simp at h'
  · simp only [Value.slice.injEq] at h'; exact h'.2.1
theorem ARow.form {B : Nat} {w : World} {v : Value} {P : List (At × Value)} (h : ARow B w v P) (h0 : 0 < P.length) : ∃ g c, v = .slice (some ⟨g, 0, none⟩) P.length c ∧ B ≤ g ∧ g < w.heap.size ∧ P.length ≤ c := by
  rcases h.2 with ⟨_, e⟩ | ⟨g, cap, cur, rfl, hb, hh, hc, _⟩
  · omega
  · exact ⟨g, cap, rfl, hb, (World.ownsRow.lt h g rfl).2, hc⟩
theorem ARow.at {B : Nat} {w : World} {v : Value} {P : List (At × Value)} (h : ARow B w v P) (hw : WordsAt w P) : AttsAt w v (P.map (·.1)) := by
  have hlm : (P.map (·.1)).length = P.length := by simp
  unfold AttsAt
  rw [hlm]
  rcases h.2 with ⟨rfl, h0⟩ | ⟨g, cap, cur, rfl, hb, hg, hnc, _⟩
  · exact ⟨none, 0, by rw [h0], ⟨by omega, fun _ => rfl⟩, fun h => by omega⟩
  · refine ⟨_, _, rfl, ⟨hnc, fun e => by cases e⟩, fun _ => ⟨g, 0, rfl, fun i hi => ?_⟩⟩
    have hf := fl5_at P i hi
    have ha : at' (P.map (·.1)) i = P[i].1 := by rw [at_at _ i (by rw [hlm]; exact hi)]; simp
    have hwi := hw i hi
    rw [pa_at P i hi] at hwi
    rw [Nat.zero_add, ha, World.ownsRow.cellAt h (i * 5) (by omega), World.ownsRow.cellAt h (i * 5 + 1) (by omega), World.ownsRow.cellAt h (i * 5 + 2) (by omega), World.ownsRow.cellAt h (i * 5 + 3) (by omega), World.ownsRow.cellAt h (i * 5 + 4) (by omega)]
    exact ⟨hf.1, hf.2.1, ⟨_, hf.2.2.1, hwi⟩, hf.2.2.2.1, hf.2.2.2.2⟩
theorem ARow.cells {B g n c : Nat} {w : World} {P : List (At × Value)} (h : ARow B w (.slice (some ⟨g, 0, none⟩) n c) P) (i : Nat) (hi : i < P.length) : w.cell? ⟨g, i * 5, none⟩ = some (.string (tx (pa P i).1.nm)) ∧ w.cell? ⟨g, i * 5 + 1, none⟩ = some (.int .i64 (pa P i).1.k) ∧ w.cell? ⟨g, i * 5 + 2, none⟩ = some (pa P i).2 ∧ w.cell? ⟨g, i * 5 + 3, none⟩ = some (.int .i64 (pa P i).1.lo) ∧ w.cell? ⟨g, i * 5 + 4, none⟩ = some (.int .i64 (pa P i).1.hi) := by
  have hn := h.len
  subst hn
  have hf := fl5_at P i hi
  rw [pa_at P i hi, World.ownsRow.cellAt h (i * 5) (by omega), World.ownsRow.cellAt h (i * 5 + 1) (by omega), World.ownsRow.cellAt h (i * 5 + 2) (by omega), World.ownsRow.cellAt h (i * 5 + 3) (by omega), World.ownsRow.cellAt h (i * 5 + 4) (by omega)]
  exact hf
theorem ARow.src {B g n c : Nat} {w : World} {P : List (At × Value)} (h : ARow B w (.slice (some ⟨g, 0, none⟩) n c) P) (j : Nat) (u : Value) (hu : (fl5 P)[j]? = some u) : w.cell? ⟨g, 0 + j, none⟩ = some u := by
  have hn := h.len
  subst hn
  have hj : j < P.length * 5 := by rw [← fl5_length]; exact (List.getElem?_eq_some_iff.1 hu).1
  rw [Nat.zero_add, World.ownsRow.cellAt h j hj]
  exact hu
theorem ARow.frozen {B g n c : Nat} {w : World} {P : List (At × Value)} (h : ARow B w (.slice (some ⟨g, 0, none⟩) n c) P) (j : Nat) : w.frozen? ⟨g, j, none⟩ = false := by
  have hn := h.len
  subst hn
  exact World.ownsRow.frozenAt h j
/-- The five stores of an attribute. -/
def put5 (w : World) (g k : Nat) (x : At × Value) : World := ((((w.setCell ⟨g, k * 5, none⟩ (.string (tx x.1.nm))).setCell ⟨g, k * 5 + 1, none⟩ (.int .i64 x.1.k)).setCell ⟨g, k * 5 + 2, none⟩ x.2).setCell ⟨g, k * 5 + 3, none⟩ (.int .i64 x.1.lo)).setCell ⟨g, k * 5 + 4, none⟩ (.int .i64 x.1.hi)
theorem ARow.setAll {B g n c : Nat} {w : World} {P : List (At × Value)} (h : ARow B w (.slice (some ⟨g, 0, none⟩) n c) P) (k : Nat) (hk : k < P.length) (x : At × Value) :
    ARow B (put5 w g k x) (.slice (some ⟨g, 0, none⟩) n c) (P.set k x) := by
  have hn := h.len
  subst hn
  unfold ARow put5
  rw [List.length_set, fl5_set P k x hk]
  exact (World.ownsRow.stored (World.ownsRow.stored (World.ownsRow.stored (World.ownsRow.stored (World.ownsRow.stored h (k * 5) _).1 (k * 5 + 1) _).1 (k * 5 + 2) _).1 (k * 5 + 3) _).1 (k * 5 + 4) _).1
theorem put5_below {C g k : Nat} {a w : World} (h : Below C a w) (hg : C ≤ g) (x : At × Value) : Below C a (put5 w g k x) :=
  ((((h.setCell (p := ⟨g, k * 5, none⟩) hg _).setCell (p := ⟨g, k * 5 + 1, none⟩) hg _).setCell (p := ⟨g, k * 5 + 2, none⟩) hg _).setCell (p := ⟨g, k * 5 + 3, none⟩) hg _).setCell (p := ⟨g, k * 5 + 4, none⟩) hg _
theorem put5_cell {g k b j : Nat} {w : World} (h : b ≠ g) (x : At × Value) : (put5 w g k x).cell? ⟨b, j, none⟩ = w.cell? ⟨b, j, none⟩ := by
  have key : ∀ (W : World) i v, (W.setCell ⟨g, i, none⟩ v).cell? ⟨b, j, none⟩ = W.cell? ⟨b, j, none⟩ := fun W i v => World.cell?_setCell_other _ _ _ _ (by intro e; simp only [Addr.mk.injEq] at e; omega)
  unfold put5
  rw [key, key, key, key, key]
theorem put5_size {g k : Nat} {w : World} (x : At × Value) : (put5 w g k x).heap.size = w.heap.size := by unfold put5; simp
/-- Another block's row stays. -/
theorem own_other {B b o : Nat} {e : TypeId} {sz n : Nat} {xs : List Value} {w : World} {v : Value} (h : w.ownsRow B e sz v n xs) (hb : v.ownBlock ≠ some b) (u : Value) : (w.setCell ⟨b, o, none⟩ u).ownsRow B e sz v n xs := by
  obtain ⟨h1, h2⟩ := h
  refine ⟨h1, ?_⟩
  rcases h2 with h2 | ⟨g, cap, cur, hv, hg, hh, r⟩
  · exact Or.inl h2
  · refine Or.inr ⟨g, cap, cur, hv, hg, ?_, r⟩
    rw [Below.heap_setCell _ _ _ _ (fun e => hb (by subst hv; rw [show g = b from e]; rfl))]; exact hh
theorem put5_other {B b k : Nat} {e : TypeId} {sz n : Nat} {xs : List Value} {w : World} {v : Value} (h : w.ownsRow B e sz v n xs) (hb : v.ownBlock ≠ some b) (x : At × Value) : (put5 w b k x).ownsRow B e sz v n xs :=
  own_other (own_other (own_other (own_other (own_other h hb _) hb _) hb _) hb _) hb _
/-- A list of attributes, with the values of their words. -/
theorem atts_pairs {w : World} {v : Value} {L : List At} (h : AttsAt w v L) (h0 : 0 < L.length) : ∃ (P : List (At × Value)) (b off c : Nat), P.map (·.1) = L ∧ WordsAt w P ∧ v = .slice (some ⟨b, off, none⟩) L.length c ∧ (∀ j u, (fl5 P)[j]? = some u → w.cell? ⟨b, off + j, none⟩ = some u) ∧ ∀ u ∈ fl5 P, u.oneCell' = true := by
  obtain ⟨p, c, rfl, hc, hp⟩ := h
  obtain ⟨b, off, rfl, hh⟩ := hp h0
  have each : ∀ i, i < L.length → ∃ u, w.cell? ⟨b, off + i * 5 + 2, none⟩ = some u ∧ StrsAt w u (at' L i).ws := fun i hi => (hh i hi).2.2.1
  obtain ⟨q, hq⟩ := Go.Deep.choose_lt each
  have hl : ((List.range L.length).map fun i => (at' L i, q i)).length = L.length := by simp
  have hpi : ∀ i, i < L.length → pa ((List.range L.length).map fun i => (at' L i, q i)) i = (at' L i, q i) := fun i hi => by
    rw [pa_at _ i (by rw [hl]; exact hi)]; simp
  refine ⟨(List.range L.length).map fun i => (at' L i, q i), b, off, c, ?_, ?_, rfl, ?_, ?_⟩
  · apply List.ext_getElem
    · simp
    · intro i h1 h2
      simp [at_at L i h2]
  · intro i hi
    rw [hl] at hi
    rw [hpi i hi]
    exact (hq i hi).2
  · intro j u hu
    obtain ⟨i, hi, hcs⟩ := fl5_of _ j u hu
    rw [hl] at hi
    have hcell := hh i hi
    have hgi := hpi i hi
    rw [pa_at _ i (by rw [hl]; exact hi)] at hgi
    rw [hgi] at hcs
    rcases hcs with ⟨rfl, rfl⟩ | ⟨rfl, rfl⟩ | ⟨rfl, rfl⟩ | ⟨rfl, rfl⟩ | ⟨rfl, rfl⟩
    · exact hcell.1
    · rw [← Nat.add_assoc]; exact hcell.2.1
    · rw [← Nat.add_assoc]; exact (hq i hi).1
    · rw [← Nat.add_assoc]; exact hcell.2.2.2.1
    · rw [← Nat.add_assoc]; exact hcell.2.2.2.2
  · intro u hu
    obtain ⟨x, hx, hu⟩ := List.mem_flatMap.1 hu
    obtain ⟨i, hi, rfl⟩ := List.mem_map.1 hx
    have hi' : i < L.length := by simpa using hi
    obtain ⟨pq, cq, hv, _⟩ := (hq i hi').2
    simp only [five, List.mem_cons, List.not_mem_nil, or_false] at hu
    rcases hu with rfl | rfl | rfl | rfl | rfl
    · rfl
    · rfl
    · rw [hv]; rfl
    · rfl
    · rfl
theorem info_at : ∃ i z, Tryd.prog.info? 27 = some i ∧ i.zero = some z ∧ i.size = 5 ∧ z.cells.size = 5 ∧ i.bytes = 64 := by
  have h : (Tryd.prog.info? 27).map (fun i => (i.zero.map (·.cells.size), i.size, i.bytes)) = some (some 5, 5, 64) := by kernel_rfl
  cases hh : Tryd.prog.info? 27 with
  | none => rw [hh] at h; simp at h
  | some i =>
    rw [hh] at h
    simp at h
    obtain ⟨⟨z, hz, hz2⟩, h2, h3⟩ := h
    exact ⟨i, z, rfl, hz, h2, hz2, h3⟩
/-- append of a list of attributes onto an empty one that was just laid. -/
theorem wpList_copy_atts {w : World} {ops : Array Oper} {rest : List Oper} {o : Oper} {a : Act} {Q : Exit → Act → World → Prop} (hgd : o.guard = none) (s x : Operand)
    (ho : o.op = .call { callee := .builtin .append, args := #[s, x], argTypes := #[22, 22] })
    (P : List (At × Value)) (b off c : Nat) (h6 : P.length ≤ 100) (hc : ∀ j u, (fl5 P)[j]? = some u → (w.alloc (.cells #[] 27)).cell? ⟨b, off + j, none⟩ = some u) (h1 : ∀ u ∈ fl5 P, u.oneCell' = true)
    (hs : a.eval s = .slice (some ⟨w.heap.size, 0, none⟩) 0 0) (hx : a.eval x = .slice (some ⟨b, off, none⟩) P.length c)
    (h : ∀ v' w', ARow w.heap.size w' v' P → (w.alloc (.cells #[] 27)).grownBy w' (some w.heap.size) → wpList Tryd.prog ops Q rest (a.put o.dst v') w') : wpList Tryd.prog ops Q (o :: rest) a (w.alloc (.cells #[] 27)) := by
  obtain ⟨i0, z, hi, hz0, hz1, hz2, hz3⟩ := info_at
  refine wpList_append_own _ hgd s x 22 ho w.heap.size 27 i0 z 5 64 Tryd.underlying22 hi hz0 hz1 hz3 hz2 (by decide) (.slice (some ⟨w.heap.size, 0, none⟩) 0 0) 0 [] hs (World.ownsRow_made w #[] 0 (Nat.le_refl _) (by decide) (by simp)) ⟨b, off, none⟩ P.length c (fl5 P) hx (by rw [fl5_length]) ?_ h1 (by unfold maxLen; omega) (by omega) (by simp) ?_
  · intro j u hu
    rw [Go.WideShapes.add_plain]
    exact hc j u hu
  · intro v' w' hown hg _
    refine h v' w' ?_ hg
    unfold ARow
    simpa using hown
theorem below_copy {w w' : World} {t : TypeId} (hg : (w.alloc (.cells #[] t)).grownBy w' (some w.heap.size)) : Below w.heap.size w w' :=
  ((Below.refl w.heap.size w).alloc (Nat.le_refl _) _).grown hg (by simp) (fun g hg => by cases hg; exact Nat.le_refl _)
/-- A variable of one cell, and one of an attribute: they may be stored to. -/
def CAt (W : World) (b : Nat) (u : Value) : Prop := OAt W b u ∧ W.frozen? ⟨b, 0, none⟩ = false
theorem CAt.new (w : World) (u : Value) (t : TypeId) : CAt (w.alloc (.cells #[u] t)) w.heap.size u := ⟨OAt.new w u t, World.frozen?_alloc_new w _ t 0⟩
theorem CAt.keep {w w' : World} {b : Nat} {u : Value} (h : CAt w b u) (hb : Below w.heap.size w w') : CAt w' b u := ⟨h.1.keep hb, by rw [hb.frozen (p := ⟨b, 0, none⟩) h.1.1]; exact h.2⟩
theorem CAt.set {W : World} {b : Nat} {u : Value} (h : CAt W b u) (v : Value) : CAt (W.setCell ⟨b, 0, none⟩ v) b v := ⟨⟨by simpa using h.1.1, World.cell?_setCell_same _ _ _ h.1.2⟩, by rw [World.frozen?_setCell]; exact h.2⟩
def VAt (W : World) (b : Nat) (x : At) (u : Value) : Prop := AAt W b x u ∧ ∀ j, W.frozen? ⟨b, j, none⟩ = false
theorem VAt.new (w : World) (a : At) (u : Value) (t : TypeId) : VAt (w.alloc (.cells #[.string (tx a.nm), .int .i64 a.k, u, .int .i64 a.lo, .int .i64 a.hi] t)) w.heap.size a u := ⟨AAt.new w a u t, fun j => World.frozen?_alloc_new w _ t j⟩
theorem VAt.keep {w w' : World} {b : Nat} {a : At} {u : Value} (h : VAt w b a u) (hb : Below w.heap.size w w') : VAt w' b a u := ⟨h.1.keep hb, fun j => by rw [hb.frozen (p := ⟨b, j, none⟩) h.1.1]; exact h.2 j⟩
theorem VAt.blk {w w' : World} {b : Nat} {a : At} {u : Value} (h : VAt w b a u) (hb : w'.heap[b]? = w.heap[b]?) (hs : w.heap.size ≤ w'.heap.size) : VAt w' b a u := by
  obtain ⟨⟨h0, h1, h2, h3, h4, h5⟩, h6⟩ := h
  have k : ∀ j, w'.cell? ⟨b, j, none⟩ = w.cell? ⟨b, j, none⟩ := fun j => World.cell?_of_block (a := ⟨b, j, none⟩) hb
  exact ⟨⟨Nat.lt_of_lt_of_le h0 hs, (k 0).trans h1, (k 1).trans h2, (k 2).trans h3, (k 3).trans h4, (k 4).trans h5⟩, fun j => (World.frozen?_of_block (a := ⟨b, j, none⟩) hb).trans (h6 j)⟩
section
variable {W : World} {b : Nat} {x : At} {u : Value}
theorem VAt.put {j : Nat} (h : VAt W b x u) (v : Value) : (W.setCell ⟨b, j, none⟩ v).heap.size = W.heap.size ∧ (∀ i, i ≠ j → (W.setCell ⟨b, j, none⟩ v).cell? ⟨b, i, none⟩ = W.cell? ⟨b, i, none⟩) ∧ ∀ i, (W.setCell ⟨b, j, none⟩ v).frozen? ⟨b, i, none⟩ = false :=
  ⟨by simp, fun i hi => World.cell?_setCell_other _ _ _ _ (by intro e; simp only [Addr.mk.injEq] at e; omega), fun i => by rw [World.frozen?_setCell]; exact h.2 i⟩
theorem VAt.setNm (h : VAt W b x u) (n : List UInt8) : VAt (W.setCell ⟨b, 0, none⟩ (.string (tx n))) b { x with nm := n } u := by
  obtain ⟨hs, hc, hf⟩ := h.put (j := 0) (.string (tx n))
  obtain ⟨⟨h0, h1, h2, h3, h4, h5⟩, h6⟩ := h
  exact ⟨⟨by rw [hs]; exact h0, World.cell?_setCell_same _ _ _ h1, (hc 1 (by decide)).trans h2, (hc 2 (by decide)).trans h3, (hc 3 (by decide)).trans h4, (hc 4 (by decide)).trans h5⟩, hf⟩
theorem VAt.setK (h : VAt W b x u) (n : Int) : VAt (W.setCell ⟨b, 1, none⟩ (.int .i64 n)) b { x with k := n } u := by
  obtain ⟨hs, hc, hf⟩ := h.put (j := 1) (.int .i64 n)
  obtain ⟨⟨h0, h1, h2, h3, h4, h5⟩, h6⟩ := h
  exact ⟨⟨by rw [hs]; exact h0, (hc 0 (by decide)).trans h1, World.cell?_setCell_same _ _ _ h2, (hc 2 (by decide)).trans h3, (hc 3 (by decide)).trans h4, (hc 4 (by decide)).trans h5⟩, hf⟩
theorem VAt.setWs (h : VAt W b x u) (l : List (List UInt8)) (v : Value) : VAt (W.setCell ⟨b, 2, none⟩ v) b { x with ws := l } v := by
  obtain ⟨hs, hc, hf⟩ := h.put (j := 2) v
  obtain ⟨⟨h0, h1, h2, h3, h4, h5⟩, h6⟩ := h
  exact ⟨⟨by rw [hs]; exact h0, (hc 0 (by decide)).trans h1, (hc 1 (by decide)).trans h2, World.cell?_setCell_same _ _ _ h3, (hc 3 (by decide)).trans h4, (hc 4 (by decide)).trans h5⟩, hf⟩
theorem VAt.setLo (h : VAt W b x u) (n : Int) : VAt (W.setCell ⟨b, 3, none⟩ (.int .i64 n)) b { x with lo := n } u := by
  obtain ⟨hs, hc, hf⟩ := h.put (j := 3) (.int .i64 n)
  obtain ⟨⟨h0, h1, h2, h3, h4, h5⟩, h6⟩ := h
  exact ⟨⟨by rw [hs]; exact h0, (hc 0 (by decide)).trans h1, (hc 1 (by decide)).trans h2, (hc 2 (by decide)).trans h3, World.cell?_setCell_same _ _ _ h4, (hc 4 (by decide)).trans h5⟩, hf⟩
theorem VAt.setHi (h : VAt W b x u) (n : Int) : VAt (W.setCell ⟨b, 4, none⟩ (.int .i64 n)) b { x with hi := n } u := by
  obtain ⟨hs, hc, hf⟩ := h.put (j := 4) (.int .i64 n)
  obtain ⟨⟨h0, h1, h2, h3, h4, h5⟩, h6⟩ := h
  exact ⟨⟨by rw [hs]; exact h0, (hc 0 (by decide)).trans h1, (hc 1 (by decide)).trans h2, (hc 2 (by decide)).trans h3, (hc 3 (by decide)).trans h4, World.cell?_setCell_same _ _ _ h5⟩, hf⟩
end
/-- A list of strings that does not lie in the block g. -/
def OffB (g : Nat) (u : Value) : Prop := ∀ b o n c, 0 < n → u = .slice (some ⟨b, o, none⟩) n c → b ≠ g
theorem StrsAt.put5 {w : World} {u : Value} {l : List (List UInt8)} (h : StrsAt w u l) {g : Nat} (ho : OffB g u) (k : Nat) (x : At × Value) : StrsAt (put5 w g k x) u l := by
  obtain ⟨p, c, rfl, hc, hp⟩ := h
  refine ⟨p, c, rfl, hc, fun h0 => ?_⟩
  obtain ⟨b, off, rfl, hh⟩ := hp h0
  have hne := ho b off _ _ h0 rfl
  have key : ∀ (W : World) j i v, (W.setCell ⟨g, j, none⟩ v).cell? ⟨b, i, none⟩ = W.cell? ⟨b, i, none⟩ := fun W j i v => World.cell?_setCell_other _ _ _ _ (by intro e; simp only [Addr.mk.injEq] at e; omega)
  exact ⟨b, off, rfl, fun j hj => by unfold Go.Proofs.YtdehldcgakdobaaDoor.Sc.put5; rw [key, key, key, key, key]; exact hh j hj⟩
end Go.Proofs.YtdehldcgakdobaaDoor.Sc
