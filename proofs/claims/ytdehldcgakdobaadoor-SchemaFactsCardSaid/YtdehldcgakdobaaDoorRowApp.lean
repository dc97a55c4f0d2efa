/- append of a whole row of ints onto a row of the call's own. -/
import Derived.Test.YtdehldcgakdobaaDoorBase
namespace Go.Proofs.YtdehldcgakdobaaDoor.Bas
open Go.RowKit Go.Lib
set_option linter.unusedVariables false

/-- append of a row of ints, which lies at its block's head, onto a row of the call's own. -/
theorem app_row {P : Program} {w : World} {ops : Array Oper} {rest : List Oper} {o : Oper} {a : Act} {Q : Exit → Act → World → Prop} (hgd : o.guard = none) (s x : Operand) (t : TypeId)
    (ho : o.op = .call { callee := .builtin .append, args := #[s, x], argTypes := #[t, t] })
    (B : Nat) (e : TypeId) (kd : IntKind) (i : TypeInfo) (bytes : Nat) (ht : P.underlying t = some (.slice e)) (hi : P.info? e = some i) (hz : i.zero = some (.int kd 0))
    (hsize : i.size = 1) (hby : i.bytes = bytes) (hby8 : bytes ≤ 16) (v : Value) (L : List Int) (hs : a.eval s = v) (hrow : Row e kd B w v L) (g c : Nat) (L2 : List Int) (hx : a.eval x = .slice (some ⟨g, 0, none⟩) L2.length c)
    (hc : ∀ j, j < L2.length → w.cell? ⟨g, j, none⟩ = some (.int kd (L2.getD j 0))) (hlen : L.length + L2.length ≤ 1099511627776) (hB : B ≤ w.heap.size)
    (h : ∀ v' w', Row e kd B w' v' (L ++ L2) → w.grownBy w' v.ownBlock → wpList P ops Q rest (a.put o.dst v') w') : wpList P ops Q (o :: rest) a w := by
  have hbd : (L.length + L2.length) * bytes ≤ 140737488355328 := by
    have := Nat.mul_le_mul hlen hby8
    omega
  refine wpList_append_own _ hgd s x t ho B e i (.int kd 0) 1 bytes ht hi hz hsize hby rfl (by decide) v L.length (L.map (Value.int kd)) hs hrow ⟨g, 0, none⟩ L2.length c (L2.map (Value.int kd)) hx (by simp) ?_ ?_ (by unfold maxLen; omega) hbd hB ?_
  · intro j u hu
    rw [List.getElem?_map] at hu
    obtain ⟨y, hy, rfl⟩ := Option.map_eq_some_iff.1 hu
    have hj : j < L2.length := (List.getElem?_eq_some_iff.1 hy).1
    have := hc j hj
    rw [List.getD_eq_getElem?_getD, hy] at this
    rw [Go.WideShapes.add_plain, Nat.zero_add]; exact this
  · intro u hu
    obtain ⟨y, _, rfl⟩ := List.mem_map.1 hu
    rfl
  · intro v' w' hown hg _
    refine h v' w' ?_ hg
    unfold Row
    rw [List.length_append, List.map_append]
    exact hown
theorem app_met {P : Program} {w : World} {ops : Array Oper} {rest : List Oper} {o : Oper} {a : Act} {Q : Exit → Act → World → Prop} (hw : Region.wanted o (yielded ops a.tmps) = true)
    (h : ∀ K : Act → World → Prop, (∀ a w, wpList P ops Q rest a w → K a w) → o.wp P a w K Q) : wpList P ops Q (o :: rest) a w :=
  wpList_step fun K hK => by rw [if_pos hw]; exact h K hK
/-- append of a row of ints, which lies at its block's head, onto a row of the call's own. -/
theorem app_row_g {P : Program} {w : World} {ops : Array Oper} {rest : List Oper} {o : Oper} {a : Act} {Q : Exit → Act → World → Prop} (hgd : Region.wanted o (yielded ops a.tmps) = true) (s x : Operand) (t : TypeId)
    (ho : o.op = .call { callee := .builtin .append, args := #[s, x], argTypes := #[t, t] })
    (B : Nat) (e : TypeId) (kd : IntKind) (i : TypeInfo) (bytes : Nat) (ht : P.underlying t = some (.slice e)) (hi : P.info? e = some i) (hz : i.zero = some (.int kd 0))
    (hsize : i.size = 1) (hby : i.bytes = bytes) (hby8 : bytes ≤ 16) (v : Value) (L : List Int) (hs : a.eval s = v) (hrow : Row e kd B w v L) (g c : Nat) (L2 : List Int) (hx : a.eval x = .slice (some ⟨g, 0, none⟩) L2.length c)
    (hc : ∀ j, j < L2.length → w.cell? ⟨g, j, none⟩ = some (.int kd (L2.getD j 0))) (hlen : L.length + L2.length ≤ 1099511627776) (hB : B ≤ w.heap.size)
    (h : ∀ v' w', Row e kd B w' v' (L ++ L2) → w.grownBy w' v.ownBlock → wpList P ops Q rest (a.put o.dst v') w') : wpList P ops Q (o :: rest) a w := by
  have hbd : (L.length + L2.length) * bytes ≤ 140737488355328 := by
    have := Nat.mul_le_mul hlen hby8
    omega
  refine app_met hgd fun K hK => wp_append_own w s x t ho B e i (.int kd 0) 1 bytes ht hi hz hsize hby rfl (by decide) v L.length (L.map (Value.int kd)) hs hrow ⟨g, 0, none⟩ L2.length c (L2.map (Value.int kd)) hx (by simp) ?_ ?_ (by unfold maxLen; omega) hbd hB ?_
  · intro j u hu
    rw [List.getElem?_map] at hu
    obtain ⟨y, hy, rfl⟩ := Option.map_eq_some_iff.1 hu
    have hj : j < L2.length := (List.getElem?_eq_some_iff.1 hy).1
    have := hc j hj
    rw [List.getD_eq_getElem?_getD, hy] at this
    rw [Go.WideShapes.add_plain, Nat.zero_add]; exact this
  · intro u hu
    obtain ⟨y, _, rfl⟩ := List.mem_map.1 hu
    rfl
  · intro v' w' hown hg _
    refine hK _ _ (h v' w' ?_ hg)
    unfold Row
    rw [List.length_append, List.map_append]
    exact hown
/-- append of one number that was just laid into a block of its own. -/
theorem app_one_g {P : Program} {w : World} {ops : Array Oper} {rest : List Oper} {o : Oper} {a : Act} {Q : Exit → Act → World → Prop} (hgd : Region.wanted o (yielded ops a.tmps) = true) (s x : Operand) (t : TypeId)
    (ho : o.op = .call { callee := .builtin .append, args := #[s, x], argTypes := #[t, t] })
    (B : Nat) (e : TypeId) (kd : IntKind) (i : TypeInfo) (bytes : Nat) (ht : P.underlying t = some (.slice e)) (hi : P.info? e = some i) (hz : i.zero = some (.int kd 0))
    (hsize : i.size = 1) (hby : i.bytes = bytes) (hby8 : bytes ≤ 16) (v : Value) (L : List Int) (hs : a.eval s = v) (hrow : Row e kd B w v L) (y : Int) (hx : a.eval x = .slice (some ⟨w.heap.size, 0, none⟩) 1 1)
    (hlen : L.length ≤ 1099511627776) (hB : B ≤ w.heap.size)
    (h : ∀ v' w', Row e kd B w' v' (L ++ [y]) → w.grownBy w' v.ownBlock → wpList P ops Q rest (a.put o.dst v') w') : wpList P ops Q (o :: rest) a (w.alloc (.cells #[.int kd y] e)) := by
  have hbd : (L.length + 1) * bytes ≤ 140737488355328 := by
    have := Nat.mul_le_mul (show L.length + 1 ≤ 1099511627777 by omega) hby8
    omega
  refine app_met hgd fun K hK => wp_append_own _ s x t ho B e i (.int kd 0) 1 bytes ht hi hz hsize hby rfl (by decide) v L.length (L.map (Value.int kd)) hs (World.ownsRow.alloc hrow _) ⟨w.heap.size, 0, none⟩ 1 1 [.int kd y] hx rfl ?_ ?_ (by unfold maxLen; omega) hbd (by simp; omega) ?_
  · intro j u hu
    cases j with
    | zero => simp at hu; subst hu; simp [Addr.add]
    | succ j => simp at hu
  · intro u hu
    simp at hu; subst hu; rfl
  · intro v' w' hown hg _
    refine hK _ _ (h v' w' ?_ (grownBy_alloc hg))
    unfold Row
    rw [List.length_append, List.map_append]
    exact hown
theorem row_none (w : World) (B : Nat) (hB : B ≤ w.heap.size) : Row 3 .i64 B (w.alloc (.cells #[] 3)) (.slice (some ⟨w.heap.size, 0, none⟩) 0 0) [] := by
  have := World.ownsRow_made (base := B) (e := 3) (size := 1) w #[] 0 hB (by unfold maxLen; omega) (by simp)
  unfold Row; simpa using this
theorem Row.form {B : Nat} {w : World} {v : Value} {L : List Int} {t : TypeId} {k : IntKind} (h : Row t k B w v L) (h0 : 0 < L.length) : ∃ g c, v = .slice (some ⟨g, 0, none⟩) L.length c ∧ B ≤ g ∧ g < w.heap.size ∧ L.length ≤ c ∧ ∀ j, j < L.length → w.cell? ⟨g, j, none⟩ = some (.int k (L.getD j 0)) := by
  rcases h.2 with ⟨_, e⟩ | ⟨g, cap, cur, rfl, hb, hh, hc, _⟩
  · omega
  · have hlt := World.ownsRow.lt h g rfl
    refine ⟨g, cap, rfl, hb, hlt.2, hc, fun j hj => ?_⟩
    rw [World.ownsRow.cellAt h j (by omega)]
    simp [List.getD_eq_getElem?_getD, List.getElem?_eq_getElem hj]
end Go.Proofs.YtdehldcgakdobaaDoor.Bas
