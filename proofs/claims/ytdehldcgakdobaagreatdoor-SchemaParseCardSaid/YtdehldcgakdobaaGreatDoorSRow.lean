/- Rows of strings of the call's own; what is owned stays. -/
import Derived.Test.YtdehldcgakdobaaGreatDoorScOpen
namespace Go.Proofs.YtdehldcgakdobaaGreatDoor.Sc
open Go.RowKit Go.Lib Go.Proofs.YtdehldcgakdobaaGreatDoor.Bas Go.Proofs.YtdehldcgakdobaaGreatDoor.Cal Go.Proofs.YtdehldcgakdobaaGreatDoor.Lx
set_option linter.unusedVariables false

theorem own_below {B C : Nat} {e : TypeId} {sz n : Nat} {xs : List Value} {w w' : World} {v : Value} (h : w.ownsRow B e sz v n xs) (hb : Below C w w') (hC : ∀ g, v.ownBlock = some g → g < C) : w'.ownsRow B e sz v n xs := by
  obtain ⟨h1, h2⟩ := h
  refine ⟨h1, ?_⟩
  rcases h2 with h2 | ⟨g, cap, cur, hv, hg, hh, r⟩
  · exact Or.inl h2
  · exact Or.inr ⟨g, cap, cur, hv, hg, by rw [hb.block g (hC g (by subst hv; rfl))]; exact hh, r⟩
theorem own_keep {B : Nat} {e : TypeId} {sz n : Nat} {xs : List Value} {w w' : World} {v : Value} (h : w.ownsRow B e sz v n xs) (hb : Below w.heap.size w w') : w'.ownsRow B e sz v n xs :=
  own_below h hb fun g hg => (World.ownsRow.lt h g hg).2
theorem own_al {B : Nat} {e : TypeId} {sz n : Nat} {xs : List Value} {w : World} {v : Value} {o : Obj} (h : w.ownsRow B e sz v n xs) : (w.alloc o).ownsRow B e sz v n xs := World.ownsRow.alloc h o
theorem own_block {B : Nat} {e : TypeId} {sz n : Nat} {xs : List Value} {w w' : World} {v : Value} (h : w.ownsRow B e sz v n xs) (hb : ∀ g, v.ownBlock = some g → w'.heap[g]? = w.heap[g]?) : w'.ownsRow B e sz v n xs := by
  obtain ⟨h1, h2⟩ := h
  refine ⟨h1, ?_⟩
  rcases h2 with h2 | ⟨g, cap, cur, hv, hg, hh, r⟩
  · exact Or.inl h2
  · exact Or.inr ⟨g, cap, cur, hv, hg, by rw [hb g (by subst hv; rfl)]; exact hh, r⟩
/-- A row of strings of the call's own. -/
def sv (l : List (List UInt8)) : List Value := l.map fun x => .string (tx x)
def SRow (B : Nat) (w : World) (v : Value) (L : List (List UInt8)) : Prop := w.ownsRow B 9 1 v L.length (sv L)
theorem sv_at (L : List (List UInt8)) (i : Nat) (h : i < L.length) : (sv L)[i]? = some (.string (tx (L.getD i []))) := by
  simp [sv, List.getD_eq_getElem?_getD, h]
theorem srow_nil (B : Nat) (w : World) : SRow B w (.slice none 0 0) [] := World.ownsRow_nil w B _ 1
theorem SRow.at {B : Nat} {w : World} {v : Value} {L : List (List UInt8)} (h : SRow B w v L) : StrsAt w v L := by
  have hlt := World.ownsRow.lt h
  rcases h.2 with ⟨rfl, h0⟩ | ⟨g, cap, cur, rfl, hb, hg, hnc, _⟩
  · exact ⟨none, 0, by rw [h0], ⟨by omega, fun _ => rfl⟩, fun h => by omega⟩
  · refine ⟨_, _, rfl, ⟨hnc, fun e => by cases e⟩, fun _ => ⟨g, 0, rfl, fun i hi => ?_⟩⟩
    have := sv_at L i hi
    rw [Nat.zero_add, World.ownsRow.cellAt h i (by omega)]
    exact this
theorem SRow.keep {B : Nat} {w w' : World} {v : Value} {L : List (List UInt8)} (h : SRow B w v L) (hb : Below w.heap.size w w') : SRow B w' v L := own_keep h hb
theorem SRow.block {B : Nat} {w : World} {v : Value} {L : List (List UInt8)} (h : SRow B w v L) : ∀ g, v.ownBlock = some g → B ≤ g ∧ g < w.heap.size := World.ownsRow.lt h
theorem SRow.mono {B B' : Nat} {w : World} {v : Value} {L : List (List UInt8)} (h : SRow B w v L) (hB : B' ≤ B) : SRow B' w v L := Go.Joins.ownsRow_le h hB
theorem info_str : ∃ i, Tryz.prog.info? 9 = some i ∧ i.zero = some (.string ByteArray.empty) ∧ i.size = 1 ∧ i.bytes = 16 := by
  have h : (Tryz.prog.info? 9).map (fun i => (i.zero, i.size, i.bytes)) = some (some (.string ByteArray.empty), 1, 16) := by kernel_rfl
  cases hh : Tryz.prog.info? 9 with
  | none => rw [hh] at h; simp at h
  | some i => rw [hh] at h; simp at h; exact ⟨i, rfl, h.1, h.2.1, h.2.2⟩
/-- append of one string that was just laid into a block of its own. -/
theorem wpList_append_str {w : World} {ops : Array Oper} {rest : List Oper} {o : Oper} {a : Act} {Q : Exit → Act → World → Prop} (hgd : o.guard = none) (s x : Operand)
    (ho : o.op = .call { callee := .builtin .append, args := #[s, x], argTypes := #[41, 41] })
    (B : Nat) (v : Value) (L : List (List UInt8)) (hs : a.eval s = v) (hrow : SRow B w v L) (y : List UInt8) (hx : a.eval x = .slice (some ⟨w.heap.size, 0, none⟩) 1 1)
    (hlen : L.length ≤ 1099511627776) (hB : B ≤ w.heap.size)
    (h : ∀ v' w', SRow B w' v' (L ++ [y]) → w.grownBy w' v.ownBlock → wpList Tryz.prog ops Q rest (a.put o.dst v') w') : wpList Tryz.prog ops Q (o :: rest) a (w.alloc (.cells #[.string (tx y)] 9)) := by
  obtain ⟨i0, hi, hz0, hz1, hz2⟩ := info_str
  refine wpList_append_own _ hgd s x 41 ho B 9 i0 (.string ByteArray.empty) 1 16 Tryz.underlying41 hi hz0 hz1 hz2 rfl (by decide) v L.length (sv L) hs (World.ownsRow.alloc hrow _) ⟨w.heap.size, 0, none⟩ 1 1 [.string (tx y)] hx rfl ?_ ?_ (by unfold maxLen; omega) (by omega) (by simp; omega) ?_
  · intro j u hu
    cases j with
    | zero => simp at hu; subst hu; simp [Addr.add]
    | succ j => simp at hu
  · intro u hu
    simp at hu; subst hu; rfl
  · intro v' w' hown hg _
    refine h v' w' ?_ (grownBy_alloc hg)
    unfold SRow sv
    rw [List.length_append, List.map_append]
    exact hown
/-- .. at a step of a region that draws its order. -/
theorem step_append_str {w : World} {ops : Array Oper} {o : Oper} {a : Act} {K : Act → World → Prop} {Q : Exit → Act → World → Prop} {E : Prop} (hgd : o.guard = none) (s x : Operand)
    (ho : o.op = .call { callee := .builtin .append, args := #[s, x], argTypes := #[41, 41] })
    (B : Nat) (v : Value) (L : List (List UInt8)) (hs : a.eval s = v) (hrow : SRow B w v L) (g : Nat) (y : List UInt8) (hx : a.eval x = .slice (some ⟨g, 0, none⟩) 1 1)
    (hc : w.cell? ⟨g, 0, none⟩ = some (.string (tx y))) (hlen : L.length ≤ 1099511627776) (hB : B ≤ w.heap.size)
    (h : ∀ v' w', SRow B w' v' (L ++ [y]) → w.grownBy w' v.ownBlock → K (a.put o.dst v') w') : if Region.wanted o (yielded ops a.tmps) = true then Oper.wp Tryz.prog o a w K Q else E := by
  obtain ⟨i0, hi, hz0, hz1, hz2⟩ := info_str
  refine step_append_lies w hgd s x 41 ho B 9 i0 (.string ByteArray.empty) 1 16 Tryz.underlying41 hi hz0 hz1 hz2 rfl (by decide) v L.length (sv L) hs hrow ⟨g, 0, none⟩ 1 1 [.string (tx y)] hx rfl ?_ ?_ (by decide) (by unfold maxLen; omega) (by omega) hB w.heap.size rfl ?_
  · intro j u hu
    cases j with
    | zero => simp at hu; subst hu; simpa [Addr.add] using hc
    | succ j => simp at hu
  · intro u hu
    simp at hu; subst hu; rfl
  · intro g' cap w' hown hg _ _
    refine h _ w' ?_ hg
    unfold SRow sv
    rw [List.length_append, List.map_append]
    exact hown
/-- append of a list of strings onto an empty one that was just laid. -/
theorem wpList_copy_strs {w : World} {ops : Array Oper} {rest : List Oper} {o : Oper} {a : Act} {Q : Exit → Act → World → Prop} (hgd : o.guard = none) (s x : Operand)
    (ho : o.op = .call { callee := .builtin .append, args := #[s, x], argTypes := #[41, 41] })
    (v0 : Value) (l : List (List UInt8)) (h6 : l.length ≤ 100) (hS : StrsAt (w.alloc (.cells #[] 9)) v0 l) (hs : a.eval s = .slice (some ⟨w.heap.size, 0, none⟩) 0 0) (hx : a.eval x = v0)
    (h : ∀ v' w', SRow w.heap.size w' v' l → (w.alloc (.cells #[] 9)).grownBy w' (some w.heap.size) → wpList Tryz.prog ops Q rest (a.put o.dst v') w') : wpList Tryz.prog ops Q (o :: rest) a (w.alloc (.cells #[] 9)) := by
  obtain ⟨i0, hi, hz0, hz1, hz2⟩ := info_str
  have hr := World.ownsRow_made (base := w.heap.size) (e := 9) (size := 1) w #[] 0 (Nat.le_refl _) (by decide) (by simp)
  obtain ⟨p, c, rfl, ⟨_, hpc⟩, hp⟩ := hS
  cases p with
  | none =>
    have hl : l.length = 0 := by
      by_cases e : 0 < l.length
      · obtain ⟨b, off, e2, _⟩ := hp e; cases e2
      · omega
    have hl0 : l = [] := List.length_eq_zero_iff.1 hl
    subst hl0
    have hc0 := hpc rfl
    subst hc0
    refine wpList_append_own_none hgd s x 41 ho w.heap.size 9 i0 1 Tryz.underlying41 hi (.slice (some ⟨w.heap.size, 0, none⟩) 0 0) 0 [] hs hr hx ?_
    exact h _ _ hr ⟨rfl, rfl, rfl, Nat.le_refl _, fun _ _ _ => rfl⟩
  | some ad =>
    refine wpList_append_own _ hgd s x 41 ho w.heap.size 9 i0 (.string ByteArray.empty) 1 16 Tryz.underlying41 hi hz0 hz1 hz2 rfl (by decide) (.slice (some ⟨w.heap.size, 0, none⟩) 0 0) 0 [] hs hr ad l.length c (sv l) hx (by simp [sv]) ?_ ?_ (by unfold maxLen; omega) (by omega) (by simp) ?_
    · intro j u hu
      have hj : j < l.length := by have := (List.getElem?_eq_some_iff.1 hu).1; simpa [sv] using this
      obtain ⟨b, off, e2, hc⟩ := hp (by omega)
      cases e2
      rw [sv_at l j hj] at hu
      cases hu
      rw [Go.WideShapes.add_plain]
      exact hc j hj
    · intro u hu
      obtain ⟨y, _, rfl⟩ := List.mem_map.1 hu
      rfl
    · intro v' w' hown hg _
      refine h v' w' ?_ hg
      unfold SRow
      simpa using hown
theorem StrsAt.take {w : World} {p : Option Addr} {n c : Nat} {l : List (List UInt8)} (h : StrsAt w (.slice p n c) l) (k : Nat) (hk : k ≤ n) : StrsAt w (.slice p k c) (l.take k) := by
  obtain ⟨p', c', hv, ⟨h1, h2⟩, hp⟩ := h
  simp only [Value.slice.injEq] at hv
  obtain ⟨rfl, rfl, rfl⟩ := hv
  have hl : (l.take k).length = k := by rw [List.length_take]; omega
  refine ⟨p, c, by rw [hl], ⟨by omega, h2⟩, fun h0 => ?_⟩
  rw [hl] at h0 ⊢
  obtain ⟨b, off, e, hc⟩ := hp (by omega)
  refine ⟨b, off, e, fun j hj => ?_⟩
  have := hc j (by omega)
  rw [List.getD_eq_getElem?_getD, List.getElem?_take, if_pos hj, ← List.getD_eq_getElem?_getD]
  exact this
theorem srow_lit (B : Nat) (w : World) (l : List (List UInt8)) (hB : B ≤ w.heap.size) (hl : l.length ≤ 1000) : SRow B (w.alloc (.cells (sv l).toArray 9)) (.slice (some ⟨w.heap.size, 0, none⟩) l.length l.length) l := by
  have := World.ownsRow_lit (e := 9) (size := 1) (base := B) w (sv l).toArray l.length hB (by unfold maxLen; omega) (by simp [sv])
  unfold SRow
  simpa using this
end Go.Proofs.YtdehldcgakdobaaGreatDoor.Sc
