/- What every text here leans on: worlds but for draws, slices of numbers as lists, rows of a call's own. -/
import Derived.Test.YtdehldcgakdobaaGreatDoorRows
import Derived.WalkKit
import Derived.ProofKit
import Derived.BigQuiet
import Derived.BigGuardPart
import Derived.Deep.QuietTactic
import Derived.Lib.Hide
import Derived.Lib.Mul64
import Derived.Laws.Bits64b
import Derived.WalkLawsBesides
import Derived.Below
import Derived.OwnWalk
import Derived.WalkSpells
import Derived.Laws.AppendOwnNone
import Derived.Deep.CutBlock
import Derived.Deep.DeepCutAuto
import Derived.Lib.SmallJoins
import Derived.Deep.RegionHeld3
import Derived.Deep.AppendLies
namespace Go.Proofs.YtdehldcgakdobaaGreatDoor.Bas
open Go.RowKit Go.Lib
set_option linter.unusedVariables false

/-- The world, but for draws. -/
def Dr (w w' : World) : Prop := ∃ n, w' = w.drewN n
theorem Dr.refl (w : World) : Dr w w := ⟨0, rfl⟩
theorem Dr.trans {a b c : World} (h : Dr a b) (k : Dr b c) : Dr a c := by
  obtain ⟨n, rfl⟩ := h; obtain ⟨m, rfl⟩ := k; exact ⟨n + m, by simp⟩
theorem Dr.drew {a b : World} (h : Dr a b) : Dr a b.drew := h.trans ⟨1, rfl⟩
theorem Dr.grown {a b : World} (h : Dr a b) : Grown a b := by obtain ⟨n, rfl⟩ := h; exact Grown.refl a

/-- The value reads as the list l of ints, in this world. -/
def IntsAt (w : World) (v : Value) (l : List Int) : Prop :=
  ∃ p c, v = .slice p l.length c ∧ (0 < l.length → ∃ b off, p = some ⟨b, off, none⟩ ∧ ∀ j, j < l.length → w.cell? ⟨b, off + j, none⟩ = some (.int .i64 (l.getD j 0)))
theorem IntsAt.drewN {w : World} {v : Value} {l : List Int} (h : IntsAt w v l) (n : Nat) : IntsAt (w.drewN n) v l := h

/-- .. of numbers of the kind k. -/
def NumsAt (k : IntKind) (w : World) (v : Value) (l : List Int) : Prop :=
  ∃ p c, v = .slice p l.length c ∧ (0 < l.length → ∃ b off, p = some ⟨b, off, none⟩ ∧ ∀ j, j < l.length → w.cell? ⟨b, off + j, none⟩ = some (.int k (l.getD j 0)))
theorem info_int : (Tryz.prog.info? 3).map (fun i => (i.zero, i.size, i.bytes)) = some (some (.int .i64 0), 1, 8) := by kernel_rfl
theorem below_drewN {B : Nat} {a w : World} (h : Below B a w) (n : Nat) : Below B a (w.drewN n) := ⟨h.os, h.tape, h.output, h.size, h.block⟩
theorem below_dr {B : Nat} {a w w' : World} (h : Below B a w) (d : Dr w w') : Below B a w' := by obtain ⟨n, rfl⟩ := d; exact below_drewN h n
theorem IntsAt.below {w w' : World} {v : Value} {l : List Int} (h : IntsAt w v l) (hb : Below w.heap.size w w') : IntsAt w' v l := by
  obtain ⟨p, c, rfl, hp⟩ := h
  refine ⟨p, c, rfl, fun h0 => ?_⟩
  obtain ⟨b, off, rfl, hc⟩ := hp h0
  have hlt : b < w.heap.size := World.block_lt_of_cell? _ _ (hc 0 h0)
  exact ⟨b, off, rfl, fun j hj => by rw [hb.cell (p := ⟨b, off + j, none⟩) hlt]; exact hc j hj⟩

/-- A row of the call's own, of numbers of the kind k (its type is t). -/
def Row (t : TypeId) (k : IntKind) (B : Nat) (w : World) (v : Value) (L : List Int) : Prop := w.ownsRow B t 1 v L.length (L.map (Value.int k))
section
variable {t : TypeId} {k : IntKind}
theorem Row.shape {B : Nat} {w : World} {v : Value} {L : List Int} (h : Row t k B w v L) : ∃ p c, v = .slice p L.length c ∧ (0 < L.length → ∃ g, p = some ⟨g, 0, none⟩ ∧ B ≤ g ∧ g < w.heap.size ∧ ∀ j, j < L.length → w.cell? ⟨g, j, none⟩ = some (.int k (L.getD j 0))) := by
  have hlt := World.ownsRow.lt h
  rcases h.2 with ⟨rfl, h0⟩ | ⟨g, cap, cur, rfl, hb, _⟩
  · exact ⟨none, 0, by rw [h0], fun h => by omega⟩
  · refine ⟨_, _, rfl, fun _ => ⟨g, rfl, hb, (hlt g rfl).2, fun j hj => ?_⟩⟩
    rw [World.ownsRow.cellAt h j (by omega)]
    simp [List.getD_eq_getElem?_getD, List.getElem?_eq_getElem hj]
theorem Row.frozen {B g n c : Nat} {w : World} {L : List Int} (h : Row t k B w (.slice (some ⟨g, 0, none⟩) n c) L) (j : Nat) : w.frozen? ⟨g, j, none⟩ = false := by
  have hn : n = L.length := by
    obtain ⟨p, c', h1, _⟩ := h.shape
    simp only [Value.slice.injEq] at h1; exact h1.2.1
  subst hn
  exact World.ownsRow.frozenAt h j
theorem Row.store {B g n c : Nat} {w : World} {L : List Int} (h : Row t k B w (.slice (some ⟨g, 0, none⟩) n c) L) (j : Nat) (z : Int) :
    Row t k B (w.setCell ⟨g, j, none⟩ (.int k z)) (.slice (some ⟨g, 0, none⟩) n c) (L.set j z) := by
  have hn : n = L.length := by
    obtain ⟨p, c', h1, _⟩ := h.shape
    simp only [Value.slice.injEq] at h1; exact h1.2.1
  subst hn
  unfold Row
  rw [List.length_set, List.map_set]
  exact (World.ownsRow.stored h j _).1
/-- It stays where nothing of before is written. -/
theorem Row.below {B C : Nat} {w w' : World} {v : Value} {L : List Int} (h : Row t k B w v L) (hb : Below C w w') (hC : ∀ g, v.ownBlock = some g → g < C) : Row t k B w' v L := by
  obtain ⟨h1, h2⟩ := h
  refine ⟨h1, ?_⟩
  rcases h2 with h2 | ⟨g, cap, cur, hv, hg, hh, r⟩
  · exact Or.inl h2
  · exact Or.inr ⟨g, cap, cur, hv, hg, by rw [hb.block g (hC g (by subst hv; rfl))]; exact hh, r⟩
theorem Row.keep {B : Nat} {w w' : World} {v : Value} {L : List Int} (h : Row t k B w v L) (hb : Below w.heap.size w w') : Row t k B w' v L :=
  h.below hb fun g hg => (World.ownsRow.lt h g hg).2
theorem Row.mono {B B' : Nat} {w : World} {v : Value} {L : List Int} (h : Row t k B w v L) (hB : B' ≤ B) : Row t k B' w v L := Go.Joins.ownsRow_le h hB
theorem Row.drewN {B : Nat} {w : World} {v : Value} {L : List Int} (h : Row t k B w v L) (n : Nat) : Row t k B (w.drewN n) v L := h
/-- A store into another block. -/
theorem Row.other {B b o : Nat} {w : World} {v : Value} {L : List Int} (h : Row t k B w v L) (hb : v.ownBlock ≠ some b) (u : Value) : Row t k B (w.setCell ⟨b, o, none⟩ u) v L := by
  obtain ⟨h1, h2⟩ := h
  refine ⟨h1, ?_⟩
  rcases h2 with h2 | ⟨g, cap, cur, hv, hg, hh, r⟩
  · exact Or.inl h2
  · refine Or.inr ⟨g, cap, cur, hv, hg, ?_, r⟩
    rw [Below.heap_setCell _ _ _ _ (fun e => hb (by subst hv; rw [show g = b from e]; rfl))]; exact hh
/-- A new row of zeros. -/
theorem Row.made (w : World) (n : Nat) (hn : n ≤ maxLen) : Row t k w.heap.size (w.alloc (.cells (Array.replicate n (Value.int k 0)) t)) (.slice (some ⟨w.heap.size, 0, none⟩) n n) (List.replicate n 0) := by
  unfold Row
  have := World.ownsRow_lit (e := t) (size := 1) (base := w.heap.size) w (Array.replicate n (Value.int k 0)) n (Nat.le_refl _) hn (by simp)
  simpa using this
end
theorem Row.ints {t : TypeId} {B : Nat} {w : World} {v : Value} {L : List Int} (h : Row t .i64 B w v L) : IntsAt w v L := by
  obtain ⟨p, c, rfl, hp⟩ := h.shape
  refine ⟨p, c, rfl, fun h0 => ?_⟩
  obtain ⟨g, rfl, _, _, hc⟩ := hp h0
  exact ⟨g, 0, rfl, fun j hj => by rw [Nat.zero_add]; exact hc j hj⟩
theorem zeros_cells (k : IntKind) (n : Nat) : (madeCells (Value.int k 0).cells (n * 1)).toList = (List.replicate n (0 : Int)).map (Value.int k) := by
  apply List.ext_getElem
  · simp [madeCells]
  · intro i h1 h2
    simp [madeCells, Value.cells, Nat.mod_one]
theorem row_zeros {t : TypeId} {k : IntKind} {B n : Nat} {w : World} {v : Value} (h : w.ownsRow B t 1 v n (madeCells (Value.int k 0).cells (n * 1)).toList) : Row t k B w v (List.replicate n 0) := by
  rw [zeros_cells] at h
  unfold Row
  rw [List.length_replicate]
  exact h
theorem below_grownBy {B : Nat} {a w w' : World} (h : Below B a w) (hg : w.grownBy w' none) (hB : B ≤ w.heap.size) : Below B a w' := h.grown hg hB fun k hk => by cases hk
theorem grownBy_alloc {w w' : World} {o : Obj} {row : Option Nat} (h : (w.alloc o).grownBy w' row) : w.grownBy w' row :=
  ⟨h.os, h.tape, h.output, by have := h.size; simp at this; omega, fun k hk hr => by rw [h.block k (by simp; omega) hr]; exact Below.heap_alloc _ _ _ hk⟩
/-- append of one number that was just laid into a block of its own. -/
theorem wpList_append_one {P : Program} {w : World} {ops : Array Oper} {rest : List Oper} {o : Oper} {a : Act} {Q : Exit → Act → World → Prop} (hgd : o.guard = none) (s x : Operand) (t : TypeId)
    (ho : o.op = .call { callee := .builtin .append, args := #[s, x], argTypes := #[t, t] })
    (B : Nat) (e : TypeId) (kd : IntKind) (i : TypeInfo) (bytes : Nat) (ht : P.underlying t = some (.slice e)) (hi : P.info? e = some i) (hz : i.zero = some (.int kd 0))
    (hsize : i.size = 1) (hby : i.bytes = bytes) (hby8 : bytes ≤ 16) (v : Value) (L : List Int) (hs : a.eval s = v) (hrow : Row e kd B w v L) (y : Int) (hx : a.eval x = .slice (some ⟨w.heap.size, 0, none⟩) 1 1)
    (hlen : L.length ≤ 1099511627776) (hB : B ≤ w.heap.size)
    (h : ∀ v' w', Row e kd B w' v' (L ++ [y]) → w.grownBy w' v.ownBlock → wpList P ops Q rest (a.put o.dst v') w') : wpList P ops Q (o :: rest) a (w.alloc (.cells #[.int kd y] e)) := by
  have hbd : (L.length + 1) * bytes ≤ 140737488355328 := by
    have := Nat.mul_le_mul (show L.length + 1 ≤ 1099511627777 by omega) hby8
    omega
  refine wpList_append_own _ hgd s x t ho B e i (.int kd 0) 1 bytes ht hi hz hsize hby rfl (by decide) v L.length (L.map (Value.int kd)) hs (World.ownsRow.alloc hrow _) ⟨w.heap.size, 0, none⟩ 1 1 [.int kd y] hx rfl ?_ ?_ (by unfold maxLen; omega) hbd (by simp; omega) ?_
  · intro j u hu
    cases j with
    | zero => simp at hu; subst hu; simp [Addr.add]
    | succ j => simp at hu
  · intro u hu
    simp at hu; subst hu; rfl
  · intro v' w' hown hg _
    refine h v' w' ?_ (grownBy_alloc hg)
    unfold Row
    rw [List.length_append, List.map_append]
    exact hown
/-- .. at a step of a region that draws its order; the number lies in a block that was made just before. -/
theorem step_append_one {P : Program} {w : World} {ops : Array Oper} {o : Oper} {a : Act} {K : Act → World → Prop} {Q : Exit → Act → World → Prop} {E : Prop} (hgd : o.guard = none) (s x : Operand) (t : TypeId)
    (ho : o.op = .call { callee := .builtin .append, args := #[s, x], argTypes := #[t, t] })
    (B : Nat) (e : TypeId) (kd : IntKind) (i : TypeInfo) (bytes : Nat) (ht : P.underlying t = some (.slice e)) (hi : P.info? e = some i) (hz : i.zero = some (.int kd 0))
    (hsize : i.size = 1) (hby : i.bytes = bytes) (hby8 : bytes ≤ 16) (v : Value) (L : List Int) (hs : a.eval s = v) (hrow : Row e kd B w v L) (g : Nat) (y : Int) (hx : a.eval x = .slice (some ⟨g, 0, none⟩) 1 1)
    (hc : w.cell? ⟨g, 0, none⟩ = some (.int kd y)) (hlen : L.length ≤ 1099511627776) (hB : B ≤ w.heap.size)
    (h : ∀ v' w', Row e kd B w' v' (L ++ [y]) → w.grownBy w' v.ownBlock → K (a.put o.dst v') w') : if Region.wanted o (yielded ops a.tmps) = true then Oper.wp P o a w K Q else E := by
  have hbd : (L.length + 1) * bytes ≤ 140737488355328 := by
    have := Nat.mul_le_mul (show L.length + 1 ≤ 1099511627777 by omega) hby8
    omega
  refine step_append_lies w hgd s x t ho B e i (.int kd 0) 1 bytes ht hi hz hsize hby rfl (by decide) v L.length (L.map (Value.int kd)) hs hrow ⟨g, 0, none⟩ 1 1 [.int kd y] hx rfl ?_ ?_ (by decide) (by unfold maxLen; omega) hbd hB w.heap.size rfl ?_
  · intro j u hu
    cases j with
    | zero => simp at hu; subst hu; simpa [Addr.add] using hc
    | succ j => simp at hu
  · intro u hu
    simp at hu; subst hu; rfl
  · intro g' cap w' hown hg _ _
    refine h _ w' ?_ hg
    unfold Row
    rw [List.length_append, List.map_append]
    exact hown
/-- .. with where the new slice lies. -/
theorem step_append_at {P : Program} {w : World} {ops : Array Oper} {o : Oper} {a : Act} {K : Act → World → Prop} {Q : Exit → Act → World → Prop} {E : Prop} (hgd : o.guard = none) (s x : Operand) (t : TypeId)
    (ho : o.op = .call { callee := .builtin .append, args := #[s, x], argTypes := #[t, t] })
    (B : Nat) (e : TypeId) (kd : IntKind) (i : TypeInfo) (bytes : Nat) (ht : P.underlying t = some (.slice e)) (hi : P.info? e = some i) (hz : i.zero = some (.int kd 0))
    (hsize : i.size = 1) (hby : i.bytes = bytes) (hby8 : bytes ≤ 16) (v : Value) (L : List Int) (hs : a.eval s = v) (hrow : Row e kd B w v L) (g : Nat) (y : Int) (hx : a.eval x = .slice (some ⟨g, 0, none⟩) 1 1)
    (hc : w.cell? ⟨g, 0, none⟩ = some (.int kd y)) (hlen : L.length ≤ 1099511627776) (hB : B ≤ w.heap.size)
    (h : ∀ v' w', Row e kd B w' v' (L ++ [y]) → w.grownBy w' v.ownBlock → (∃ g, v'.ownBlock = some g ∧ g < w'.heap.size ∧ (v.ownBlock = some g ∨ g = w.heap.size)) → K (a.put o.dst v') w') : if Region.wanted o (yielded ops a.tmps) = true then Oper.wp P o a w K Q else E := by
  have hbd : (L.length + 1) * bytes ≤ 140737488355328 := by
    have := Nat.mul_le_mul (show L.length + 1 ≤ 1099511627777 by omega) hby8
    omega
  refine step_append_lies w hgd s x t ho B e i (.int kd 0) 1 bytes ht hi hz hsize hby rfl (by decide) v L.length (L.map (Value.int kd)) hs hrow ⟨g, 0, none⟩ 1 1 [.int kd y] hx rfl ?_ ?_ (by decide) (by unfold maxLen; omega) hbd hB w.heap.size rfl ?_
  · intro j u hu
    cases j with
    | zero => simp at hu; subst hu; simpa [Addr.add] using hc
    | succ j => simp at hu
  · intro u hu
    simp at hu; subst hu; rfl
  · intro g' cap w' hown hg hat hlt
    refine h _ w' ?_ hg ⟨g', rfl, hlt, hat⟩
    unfold Row
    rw [List.length_append, List.map_append]
    exact hown
theorem Row.al {t : TypeId} {k : IntKind} {B : Nat} {w : World} {v : Value} {L : List Int} (h : Row t k B w v L) (o : Obj) : Row t k B (w.alloc o) v L := World.ownsRow.alloc h o
theorem Row.grown {t : TypeId} {k : IntKind} {B : Nat} {w w' : World} {v : Value} {L : List Int} {row : Option Nat} (h : Row t k B w v L) (hg : w.grownBy w' row) (hne : v.ownBlock ≠ row) : Row t k B w' v L := World.ownsRow.kept h hg (.inr hne)
theorem Row.dr {t : TypeId} {k : IntKind} {B : Nat} {w : World} {v : Value} {L : List Int} (h : Row t k B w v L) : Row t k B w.drew v L := h
theorem Row.block {t : TypeId} {k : IntKind} {B : Nat} {w : World} {v : Value} {L : List Int} (h : Row t k B w v L) : ∀ g, v.ownBlock = some g → B ≤ g ∧ g < w.heap.size := World.ownsRow.lt h
/-- What a call hands back is a new row of ints; nothing of before has changed. -/
def Out (L : List Int) (w : World) (e : Ending) (w' : World) : Prop := ∃ u, e = .returned u ∧ Row 3 .i64 w.heap.size w' u L ∧ Below w.heap.size w w'
end Go.Proofs.YtdehldcgakdobaaGreatDoor.Bas
