/- What every text here leans on: worlds but for draws, slices of numbers as lists, rows of a call's own. Strings as lists of bytes. Lists of bytes: kinds of bytes, spans, words and marks (mathematics). Package lexer: the kinds of bytes, and span. Package lexer: words, marks, amounts. The reserved words, in the program and in the reference. Schemas and facts: what Validate, Domain, Valid and Format a -/
import Derived.Test.YtjmipikahaoblaaGreatDoorRows
import Derived.WalkKit
import Derived.ProofKit
import Derived.BigQuiet
import Derived.BigGuardPart
import Derived.Deep.QuietTactic
import Derived.Lib.Hide
import Derived.Lib.Mul64
import Derived.Laws.Bits64b
import Derived.WalkLawsBesides
import Derived.Below
import Derived.OwnWalk
import Derived.WalkSpells
import Derived.Laws.AppendOwnNone
import Derived.Deep.CutBlock
import Derived.Deep.DeepCutAuto
import Derived.Lib.SmallJoins
import Derived.Deep.RegionHeld3
import Derived.Deep.AppendLies
import Derived.Laws.IdiomStrings
import Derived.Laws.Concat
import Derived.Lib.ItoaNum
import Derived.OpenShut
import Derived.Carry
import Derived.ChangeSame
namespace Go.Proofs.YtjmipikahaoblaaGreatDoor.Bas
open Go.RowKit Go.Lib
set_option linter.unusedVariables false

/-- The world, but for draws. -/
def Dr (w w' : World) : Prop := ∃ n, w' = w.drewN n
theorem Dr.refl (w : World) : Dr w w := ⟨0, rfl⟩
theorem Dr.trans {a b c : World} (h : Dr a b) (k : Dr b c) : Dr a c := by
  obtain ⟨n, rfl⟩ := h; obtain ⟨m, rfl⟩ := k; exact ⟨n + m, by simp⟩
theorem Dr.drew {a b : World} (h : Dr a b) : Dr a b.drew := h.trans ⟨1, rfl⟩
theorem Dr.grown {a b : World} (h : Dr a b) : Grown a b := by obtain ⟨n, rfl⟩ := h; exact Grown.refl a

/-- The value reads as the list l of ints, in this world. -/
def IntsAt (w : World) (v : Value) (l : List Int) : Prop :=
  ∃ p c, v = .slice p l.length c ∧ (0 < l.length → ∃ b off, p = some ⟨b, off, none⟩ ∧ ∀ j, j < l.length → w.cell? ⟨b, off + j, none⟩ = some (.int .i64 (l.getD j 0)))
theorem IntsAt.drewN {w : World} {v : Value} {l : List Int} (h : IntsAt w v l) (n : Nat) : IntsAt (w.drewN n) v l := h

/-- .. of numbers of the kind k. -/
def NumsAt (k : IntKind) (w : World) (v : Value) (l : List Int) : Prop :=
  ∃ p c, v = .slice p l.length c ∧ (0 < l.length → ∃ b off, p = some ⟨b, off, none⟩ ∧ ∀ j, j < l.length → w.cell? ⟨b, off + j, none⟩ = some (.int k (l.getD j 0)))
theorem info_int : (Tryz.prog.info? 3).map (fun i => (i.zero, i.size, i.bytes)) = some (some (.int .i64 0), 1, 8) := by kernel_rfl
theorem below_drewN {B : Nat} {a w : World} (h : Below B a w) (n : Nat) : Below B a (w.drewN n) := ⟨h.os, h.tape, h.output, h.size, h.block⟩
theorem below_dr {B : Nat} {a w w' : World} (h : Below B a w) (d : Dr w w') : Below B a w' := by obtain ⟨n, rfl⟩ := d; exact below_drewN h n
theorem IntsAt.below {w w' : World} {v : Value} {l : List Int} (h : IntsAt w v l) (hb : Below w.heap.size w w') : IntsAt w' v l := by
  obtain ⟨p, c, rfl, hp⟩ := h
  refine ⟨p, c, rfl, fun h0 => ?_⟩
  obtain ⟨b, off, rfl, hc⟩ := hp h0
  have hlt : b < w.heap.size := World.block_lt_of_cell? _ _ (hc 0 h0)
  exact ⟨b, off, rfl, fun j hj => by rw [hb.cell (p := ⟨b, off + j, none⟩) hlt]; exact hc j hj⟩

/-- A row of the call's own, of numbers of the kind k (its type is t). -/
def Row (t : TypeId) (k : IntKind) (B : Nat) (w : World) (v : Value) (L : List Int) : Prop := w.ownsRow B t 1 v L.length (L.map (Value.int k))
section
variable {t : TypeId} {k : IntKind}
theorem Row.shape {B : Nat} {w : World} {v : Value} {L : List Int} (h : Row t k B w v L) : ∃ p c, v = .slice p L.length c ∧ (0 < L.length → ∃ g, p = some ⟨g, 0, none⟩ ∧ B ≤ g ∧ g < w.heap.size ∧ ∀ j, j < L.length → w.cell? ⟨g, j, none⟩ = some (.int k (L.getD j 0))) := by
  have hlt := World.ownsRow.lt h
  rcases h.2 with ⟨rfl, h0⟩ | ⟨g, cap, cur, rfl, hb, _⟩
  · exact ⟨none, 0, by rw [h0], fun h => by omega⟩
  · refine ⟨_, _, rfl, fun _ => ⟨g, rfl, hb, (hlt g rfl).2, fun j hj => ?_⟩⟩
    rw [World.ownsRow.cellAt h j (by omega)]
    simp [List.getD_eq_getElem?_getD, List.getElem?_eq_getElem hj]
theorem Row.frozen {B g n c : Nat} {w : World} {L : List Int} (h : Row t k B w (.slice (some ⟨g, 0, none⟩) n c) L) (j : Nat) : w.frozen? ⟨g, j, none⟩ = false := by
  have hn : n = L.length := by
    obtain ⟨p, c', h1, _⟩ := h.shape
    simp only [Value.slice.injEq] at h1; exact h1.2.1
  subst hn
  exact World.ownsRow.frozenAt h j
theorem Row.store {B g n c : Nat} {w : World} {L : List Int} (h : Row t k B w (.slice (some ⟨g, 0, none⟩) n c) L) (j : Nat) (z : Int) :
    Row t k B (w.setCell ⟨g, j, none⟩ (.int k z)) (.slice (some ⟨g, 0, none⟩) n c) (L.set j z) := by
  have hn : n = L.length := by
    obtain ⟨p, c', h1, _⟩ := h.shape
    simp only [Value.slice.injEq] at h1; exact h1.2.1
  subst hn
  unfold Row
  rw [List.length_set, List.map_set]
  exact (World.ownsRow.stored h j _).1
/-- It stays where nothing of before is written. -/
theorem Row.below {B C : Nat} {w w' : World} {v : Value} {L : List Int} (h : Row t k B w v L) (hb : Below C w w') (hC : ∀ g, v.ownBlock = some g → g < C) : Row t k B w' v L := by
  obtain ⟨h1, h2⟩ := h
  refine ⟨h1, ?_⟩
  rcases h2 with h2 | ⟨g, cap, cur, hv, hg, hh, r⟩
  · exact Or.inl h2
  · exact Or.inr ⟨g, cap, cur, hv, hg, by rw [hb.block g (hC g (by subst hv; rfl))]; exact hh, r⟩
theorem Row.keep {B : Nat} {w w' : World} {v : Value} {L : List Int} (h : Row t k B w v L) (hb : Below w.heap.size w w') : Row t k B w' v L :=
  h.below hb fun g hg => (World.ownsRow.lt h g hg).2
theorem Row.mono {B B' : Nat} {w : World} {v : Value} {L : List Int} (h : Row t k B w v L) (hB : B' ≤ B) : Row t k B' w v L := Go.Joins.ownsRow_le h hB
theorem Row.drewN {B : Nat} {w : World} {v : Value} {L : List Int} (h : Row t k B w v L) (n : Nat) : Row t k B (w.drewN n) v L := h
/-- A store into another block. -/
theorem Row.other {B b o : Nat} {w : World} {v : Value} {L : List Int} (h : Row t k B w v L) (hb : v.ownBlock ≠ some b) (u : Value) : Row t k B (w.setCell ⟨b, o, none⟩ u) v L := by
  obtain ⟨h1, h2⟩ := h
  refine ⟨h1, ?_⟩
  rcases h2 with h2 | ⟨g, cap, cur, hv, hg, hh, r⟩
  · exact Or.inl h2
  · refine Or.inr ⟨g, cap, cur, hv, hg, ?_, r⟩
    rw [Below.heap_setCell _ _ _ _ (fun e => hb (by subst hv; rw [show g = b from e]; rfl))]; exact hh
/-- A new row of zeros. -/
theorem Row.made (w : World) (n : Nat) (hn : n ≤ maxLen) : Row t k w.heap.size (w.alloc (.cells (Array.replicate n (Value.int k 0)) t)) (.slice (some ⟨w.heap.size, 0, none⟩) n n) (List.replicate n 0) := by
  unfold Row
  have := World.ownsRow_lit (e := t) (size := 1) (base := w.heap.size) w (Array.replicate n (Value.int k 0)) n (Nat.le_refl _) hn (by simp)
  simpa using this
end
theorem Row.ints {t : TypeId} {B : Nat} {w : World} {v : Value} {L : List Int} (h : Row t .i64 B w v L) : IntsAt w v L := by
  obtain ⟨p, c, rfl, hp⟩ := h.shape
  refine ⟨p, c, rfl, fun h0 => ?_⟩
  obtain ⟨g, rfl, _, _, hc⟩ := hp h0
  exact ⟨g, 0, rfl, fun j hj => by rw [Nat.zero_add]; exact hc j hj⟩
theorem zeros_cells (k : IntKind) (n : Nat) : (madeCells (Value.int k 0).cells (n * 1)).toList = (List.replicate n (0 : Int)).map (Value.int k) := by
  apply List.ext_getElem
  · simp [madeCells]
  · intro i h1 h2
    simp [madeCells, Value.cells, Nat.mod_one]
theorem row_zeros {t : TypeId} {k : IntKind} {B n : Nat} {w : World} {v : Value} (h : w.ownsRow B t 1 v n (madeCells (Value.int k 0).cells (n * 1)).toList) : Row t k B w v (List.replicate n 0) := by
  rw [zeros_cells] at h
  unfold Row
  rw [List.length_replicate]
  exact h
theorem below_grownBy {B : Nat} {a w w' : World} (h : Below B a w) (hg : w.grownBy w' none) (hB : B ≤ w.heap.size) : Below B a w' := h.grown hg hB fun k hk => by cases hk
theorem grownBy_alloc {w w' : World} {o : Obj} {row : Option Nat} (h : (w.alloc o).grownBy w' row) : w.grownBy w' row :=
  ⟨h.os, h.tape, h.output, by have := h.size; simp at this; omega, fun k hk hr => by rw [h.block k (by simp; omega) hr]; exact Below.heap_alloc _ _ _ hk⟩
/-- append of one number that was just laid into a block of its own. -/
theorem wpList_append_one {P : Program} {w : World} {ops : Array Oper} {rest : List Oper} {o : Oper} {a : Act} {Q : Exit → Act → World → Prop} (hgd : o.guard = none) (s x : Operand) (t : TypeId)
    (ho : o.op = .call { callee := .builtin .append, args := #[s, x], argTypes := #[t, t] })
    (B : Nat) (e : TypeId) (kd : IntKind) (i : TypeInfo) (bytes : Nat) (ht : P.underlying t = some (.slice e)) (hi : P.info? e = some i) (hz : i.zero = some (.int kd 0))
    (hsize : i.size = 1) (hby : i.bytes = bytes) (hby8 : bytes ≤ 16) (v : Value) (L : List Int) (hs : a.eval s = v) (hrow : Row e kd B w v L) (y : Int) (hx : a.eval x = .slice (some ⟨w.heap.size, 0, none⟩) 1 1)
    (hlen : L.length ≤ 1099511627776) (hB : B ≤ w.heap.size)
    (h : ∀ v' w', Row e kd B w' v' (L ++ [y]) → w.grownBy w' v.ownBlock → wpList P ops Q rest (a.put o.dst v') w') : wpList P ops Q (o :: rest) a (w.alloc (.cells #[.int kd y] e)) := by
  have hbd : (L.length + 1) * bytes ≤ 140737488355328 := by
    have := Nat.mul_le_mul (show L.length + 1 ≤ 1099511627777 by omega) hby8
    omega
  refine wpList_append_own _ hgd s x t ho B e i (.int kd 0) 1 bytes ht hi hz hsize hby rfl (by decide) v L.length (L.map (Value.int kd)) hs (World.ownsRow.alloc hrow _) ⟨w.heap.size, 0, none⟩ 1 1 [.int kd y] hx rfl ?_ ?_ (by unfold maxLen; omega) hbd (by simp; omega) ?_
  · intro j u hu
    cases j with
    | zero => simp at hu; subst hu; simp [Addr.add]
    | succ j => simp at hu
  · intro u hu
    simp at hu; subst hu; rfl
  · intro v' w' hown hg _
    refine h v' w' ?_ (grownBy_alloc hg)
    unfold Row
    rw [List.length_append, List.map_append]
    exact hown
/-- .. at a step of a region that draws its order; the number lies in a block that was made just before. -/
theorem step_append_one {P : Program} {w : World} {ops : Array Oper} {o : Oper} {a : Act} {K : Act → World → Prop} {Q : Exit → Act → World → Prop} {E : Prop} (hgd : o.guard = none) (s x : Operand) (t : TypeId)
    (ho : o.op = .call { callee := .builtin .append, args := #[s, x], argTypes := #[t, t] })
    (B : Nat) (e : TypeId) (kd : IntKind) (i : TypeInfo) (bytes : Nat) (ht : P.underlying t = some (.slice e)) (hi : P.info? e = some i) (hz : i.zero = some (.int kd 0))
    (hsize : i.size = 1) (hby : i.bytes = bytes) (hby8 : bytes ≤ 16) (v : Value) (L : List Int) (hs : a.eval s = v) (hrow : Row e kd B w v L) (g : Nat) (y : Int) (hx : a.eval x = .slice (some ⟨g, 0, none⟩) 1 1)
    (hc : w.cell? ⟨g, 0, none⟩ = some (.int kd y)) (hlen : L.length ≤ 1099511627776) (hB : B ≤ w.heap.size)
    (h : ∀ v' w', Row e kd B w' v' (L ++ [y]) → w.grownBy w' v.ownBlock → K (a.put o.dst v') w') : if Region.wanted o (yielded ops a.tmps) = true then Oper.wp P o a w K Q else E := by
  have hbd : (L.length + 1) * bytes ≤ 140737488355328 := by
    have := Nat.mul_le_mul (show L.length + 1 ≤ 1099511627777 by omega) hby8
    omega
  refine step_append_lies w hgd s x t ho B e i (.int kd 0) 1 bytes ht hi hz hsize hby rfl (by decide) v L.length (L.map (Value.int kd)) hs hrow ⟨g, 0, none⟩ 1 1 [.int kd y] hx rfl ?_ ?_ (by decide) (by unfold maxLen; omega) hbd hB w.heap.size rfl ?_
  · intro j u hu
    cases j with
    | zero => simp at hu; subst hu; simpa [Addr.add] using hc
    | succ j => simp at hu
  · intro u hu
    simp at hu; subst hu; rfl
  · intro g' cap w' hown hg _ _
    refine h _ w' ?_ hg
    unfold Row
    rw [List.length_append, List.map_append]
    exact hown
/-- .. with where the new slice lies. -/
theorem step_append_at {P : Program} {w : World} {ops : Array Oper} {o : Oper} {a : Act} {K : Act → World → Prop} {Q : Exit → Act → World → Prop} {E : Prop} (hgd : o.guard = none) (s x : Operand) (t : TypeId)
    (ho : o.op = .call { callee := .builtin .append, args := #[s, x], argTypes := #[t, t] })
    (B : Nat) (e : TypeId) (kd : IntKind) (i : TypeInfo) (bytes : Nat) (ht : P.underlying t = some (.slice e)) (hi : P.info? e = some i) (hz : i.zero = some (.int kd 0))
    (hsize : i.size = 1) (hby : i.bytes = bytes) (hby8 : bytes ≤ 16) (v : Value) (L : List Int) (hs : a.eval s = v) (hrow : Row e kd B w v L) (g : Nat) (y : Int) (hx : a.eval x = .slice (some ⟨g, 0, none⟩) 1 1)
    (hc : w.cell? ⟨g, 0, none⟩ = some (.int kd y)) (hlen : L.length ≤ 1099511627776) (hB : B ≤ w.heap.size)
    (h : ∀ v' w', Row e kd B w' v' (L ++ [y]) → w.grownBy w' v.ownBlock → (∃ g, v'.ownBlock = some g ∧ g < w'.heap.size ∧ (v.ownBlock = some g ∨ g = w.heap.size)) → K (a.put o.dst v') w') : if Region.wanted o (yielded ops a.tmps) = true then Oper.wp P o a w K Q else E := by
  have hbd : (L.length + 1) * bytes ≤ 140737488355328 := by
    have := Nat.mul_le_mul (show L.length + 1 ≤ 1099511627777 by omega) hby8
    omega
  refine step_append_lies w hgd s x t ho B e i (.int kd 0) 1 bytes ht hi hz hsize hby rfl (by decide) v L.length (L.map (Value.int kd)) hs hrow ⟨g, 0, none⟩ 1 1 [.int kd y] hx rfl ?_ ?_ (by decide) (by unfold maxLen; omega) hbd hB w.heap.size rfl ?_
  · intro j u hu
    cases j with
    | zero => simp at hu; subst hu; simpa [Addr.add] using hc
    | succ j => simp at hu
  · intro u hu
    simp at hu; subst hu; rfl
  · intro g' cap w' hown hg hat hlt
    refine h _ w' ?_ hg ⟨g', rfl, hlt, hat⟩
    unfold Row
    rw [List.length_append, List.map_append]
    exact hown
theorem Row.al {t : TypeId} {k : IntKind} {B : Nat} {w : World} {v : Value} {L : List Int} (h : Row t k B w v L) (o : Obj) : Row t k B (w.alloc o) v L := World.ownsRow.alloc h o
theorem Row.grown {t : TypeId} {k : IntKind} {B : Nat} {w w' : World} {v : Value} {L : List Int} {row : Option Nat} (h : Row t k B w v L) (hg : w.grownBy w' row) (hne : v.ownBlock ≠ row) : Row t k B w' v L := World.ownsRow.kept h hg (.inr hne)
theorem Row.dr {t : TypeId} {k : IntKind} {B : Nat} {w : World} {v : Value} {L : List Int} (h : Row t k B w v L) : Row t k B w.drew v L := h
theorem Row.block {t : TypeId} {k : IntKind} {B : Nat} {w : World} {v : Value} {L : List Int} (h : Row t k B w v L) : ∀ g, v.ownBlock = some g → B ≤ g ∧ g < w.heap.size := World.ownsRow.lt h
/-- What a call hands back is a new row of ints; nothing of before has changed. -/
def Out (L : List Int) (w : World) (e : Ending) (w' : World) : Prop := ∃ u, e = .returned u ∧ Row 3 .i64 w.heap.size w' u L ∧ Below w.heap.size w w'
end Go.Proofs.YtjmipikahaoblaaGreatDoor.Bas
namespace Go.Proofs.YtjmipikahaoblaaGreatDoor.Cal
open Go.RowKit Go.Lib Go.Proofs.YtjmipikahaoblaaGreatDoor.Bas
set_option linter.unusedVariables false

/-- The text of a list of bytes. -/
def tx (l : List UInt8) : ByteArray := ⟨l.toArray⟩
theorem tx_size (l : List UInt8) : (tx l).size = l.length := by simp [tx, ByteArray.size]
theorem tx_append (x y : List UInt8) : tx x ++ tx y = tx (x ++ y) := by
  apply ByteArray.ext
  simp [tx]
theorem tx_add (x y : List UInt8) (P : Program) (w : World) (h : x.length + y.length ≤ 100) : (Op.stringOp .add (tx x) (tx y)).run P w = .ok (.string (tx (x ++ y))) w := by
  rw [← tx_append]
  exact run_string_add_sum w _ _ (by rw [tx_size, tx_size]; omega)

theorem tx_cat (x y : List UInt8) (P : Program) (w : World) (h : x.length + y.length ≤ 1000000) : (Op.stringOp .add (tx x) (tx y)).run P w = .ok (.string (tx (x ++ y))) w := by
  rw [← tx_append]
  exact run_string_add_sum w _ _ (by rw [tx_size, tx_size]; omega)
theorem alloc1 (w : World) (o : Obj) : Below w.heap.size w (w.alloc o) := (Below.refl _ _).alloc (Nat.le_refl _) _
theorem trans_at {a b c : World} (h : Below a.heap.size a b) (k : Below b.heap.size b c) : Below a.heap.size a c := h.trans (k.mono h.size)
end Go.Proofs.YtjmipikahaoblaaGreatDoor.Cal
namespace Go.Proofs.YtjmipikahaoblaaGreatDoor.Lx
open Go.RowKit Go.Lib Go.Proofs.YtjmipikahaoblaaGreatDoor.Bas Go.Proofs.YtjmipikahaoblaaGreatDoor.Cal
set_option linter.unusedVariables false

/-- The bytes of a string. -/
def bl (s : ByteArray) : List UInt8 := s.data.toList
theorem bl_size (s : ByteArray) : (bl s).length = s.size := by unfold bl ByteArray.size; rw [Array.length_toList]
theorem bl_tx (l : List UInt8) : bl (tx l) = l := rfl
theorem tx_bl (s : ByteArray) : tx (bl s) = s := by cases s; rfl
theorem bl_get (s : ByteArray) (k : Nat) (h : k < s.size) : (bl s).getD k 0 = s[k] := by
  have h2 : k < (bl s).length := by rw [bl_size]; exact h
  rw [List.getD_eq_getElem?_getD, List.getElem?_eq_getElem h2]
  simp [bl]
  rfl
theorem bl_extract (s : ByteArray) (a b : Nat) (h : b ≤ s.size) : bl (s.extract a b) = ((bl s).take b).drop a := by
  apply List.ext_getElem
  · rw [bl_size, ByteArray.size_extract, List.length_drop, List.length_take, bl_size]
  · intro i h1 h2
    have h1' : i < (s.extract a b).size := by rw [bl_size] at h1; exact h1
    have e1 := bl_get (s.extract a b) i h1'
    rw [List.getD_eq_getElem?_getD, List.getElem?_eq_getElem h1] at e1
    have h3 : a + i < s.size := by rw [ByteArray.size_extract] at h1'; omega
    have e2 := bl_get s (a + i) h3
    rw [List.getD_eq_getElem?_getD, List.getElem?_eq_getElem (by rw [bl_size]; exact h3)] at e2
    simp only [Option.getD_some] at e1 e2
    rw [e1, List.getElem_drop, List.getElem_take, e2]
    simp [ByteArray.getElem_extract]

def ltr (c : UInt8) : Bool := decide (97 ≤ c.toNat ∧ c.toNat ≤ 122)
def dgt (c : UInt8) : Bool := decide (48 ≤ c.toNat ∧ c.toNat ≤ 57)
def inW (c : UInt8) : Bool := ltr c || (dgt c || decide (c.toNat = 45))
def inH (c : UInt8) : Bool := dgt c || (decide (c.toNat = 45) || decide (c.toNat = 84))
def inC (c : UInt8) : Bool := !decide (c.toNat = 10)
/-- How many bytes at the beginning are of a kind. -/
def spn (f : UInt8 → Bool) : List UInt8 → Nat
  | [] => 0
  | c :: r => if f c = true then spn f r + 1 else 0
theorem spn_le (f : UInt8 → Bool) (l : List UInt8) : spn f l ≤ l.length := by
  induction l with
  | nil => exact Nat.le_refl _
  | cons c r ih => simp only [spn]; split <;> simp <;> omega
theorem spn_in (f : UInt8 → Bool) (l : List UInt8) : ∀ j, j < spn f l → f (l.getD j 0) = true := by
  induction l with
  | nil => intro j h; simp [spn] at h
  | cons c r ih =>
    intro j h
    simp only [spn] at h
    split at h
    · cases j with
      | zero => simpa using by assumption
      | succ j => simpa using ih j (by omega)
    · omega
theorem spn_out (f : UInt8 → Bool) (l : List UInt8) (h : spn f l < l.length) : f (l.getD (spn f l) 0) = false := by
  induction l with
  | nil => simp [spn] at h
  | cons c r ih =>
    simp only [spn] at h ⊢
    split
    · rename_i hc
      rw [if_pos hc] at h
      simpa using ih (by simpa using h)
    · rename_i hc
      simpa using hc
/-- The first place from which on it fails is the span. -/
theorem spn_eq (f : UInt8 → Bool) (l : List UInt8) (k : Nat) (hk : k ≤ l.length) (h1 : ∀ j, j < k → f (l.getD j 0) = true) (h2 : k < l.length → f (l.getD k 0) = false) : spn f l = k := by
  by_cases a : spn f l < k
  · have := spn_out f l (by omega)
    rw [h1 _ a] at this; cases this
  · by_cases b : k < spn f l
    · have := spn_in f l k b
      rw [h2 (by have := spn_le f l; omega)] at this; cases this
    · omega
theorem spn_append (f : UInt8 → Bool) (w r : List UInt8) (hw : ∀ c ∈ w, f c = true) (hr : r = [] ∨ f (r.getD 0 0) = false) : spn f (w ++ r) = w.length := by
  induction w with
  | nil =>
    rcases hr with rfl | h
    · rfl
    · cases r with
      | nil => rfl
      | cons c r => simp at h; simp [spn, h]
  | cons c w ih =>
    rw [List.cons_append, spn, if_pos (hw c (by simp)), ih (fun x hx => hw x (by simp [hx]))]
    rfl
theorem spn_all (f : UInt8 → Bool) (l : List UInt8) : spn f l = l.length ↔ ∀ c ∈ l, f c = true := by
  constructor
  · intro h c hc
    obtain ⟨j, hj, rfl⟩ := List.getElem_of_mem hc
    have := spn_in f l j (by omega)
    rw [List.getD_eq_getElem?_getD, List.getElem?_eq_getElem hj] at this
    simpa using this
  · intro h
    have := spn_append f l [] h (.inl rfl)
    rwa [List.append_nil] at this

/-- Is it a word? -/
def wordB (l : List UInt8) : Bool := decide (1 ≤ l.length ∧ l.length ≤ 16 ∧ ltr (l.getD 0 0) = true ∧ (l.getD (l.length - 1) 0).toNat ≠ 45 ∧ ∀ c ∈ l, inW c = true)
def markB (l : List UInt8) : Bool := decide (l = [59] ∨ l = [58] ∨ l = [44] ∨ l = [40] ∨ l = [41])
end Go.Proofs.YtjmipikahaoblaaGreatDoor.Lx
namespace Go.Proofs.YtjmipikahaoblaaGreatDoor.Lx
open Go.RowKit Go.Lib Go.Proofs.YtjmipikahaoblaaGreatDoor.Bas Go.Proofs.YtjmipikahaoblaaGreatDoor.Cal
set_option linter.unusedVariables false

/-- A bool; the world as it was. -/
def BoolSame (b : Bool) (w : World) (e : Ending) (w' : World) : Prop := e = .returned (.bool b) ∧ w = w'
def IntSame (n : Int) (w : World) (e : Ending) (w' : World) : Prop := e = .returned (.int .i64 n) ∧ w = w'
theorem u8_lt (c : UInt8) : c.toNat ≤ 255 := by have := UInt8.toNat_lt c; omega
theorem isLetter_any (c : UInt8) (w : World) : Calls Tryz.prog 81 #[.int .u8 (c.toNat : Int)] w (BoolSame (ltr c) w) := by
  unfold ltr
  generalize c.toNat = n
  by_cases h1 : (97 : Int) ≤ (n : Int)
  · have t1 : decide ((97 : Int) ≤ (n : Int)) = true := decide_eq_true h1
    by_cases h2 : (n : Int) ≤ 122
    · rw [show decide (97 ≤ n ∧ n ≤ 122) = true by simp; omega]
      have t2 : decide ((n : Int) ≤ 122) = true := decide_eq_true h2
      clear h1 h2
      go_enter Tryz.func81, Tryz.ntmps81
      go_wp2
      go_ret
      exact ⟨rfl, rfl⟩
    · rw [show decide (97 ≤ n ∧ n ≤ 122) = false by simp; omega]
      have t2 : decide ((n : Int) ≤ 122) = false := decide_eq_false h2
      clear h1 h2
      go_enter Tryz.func81, Tryz.ntmps81
      go_wp2
      go_ret
      exact ⟨rfl, rfl⟩
  · rw [show decide (97 ≤ n ∧ n ≤ 122) = false by simp; omega]
    have t1 : decide ((97 : Int) ≤ (n : Int)) = false := decide_eq_false h1
    clear h1
    go_enter Tryz.func81, Tryz.ntmps81
    go_wp2
    go_ret
    exact ⟨rfl, rfl⟩
theorem isDigit_any (c : UInt8) (w : World) : Calls Tryz.prog 119 #[.int .u8 (c.toNat : Int)] w (BoolSame (dgt c) w) := by
  unfold dgt
  generalize c.toNat = n
  by_cases h1 : (48 : Int) ≤ (n : Int)
  · have t1 : decide ((48 : Int) ≤ (n : Int)) = true := decide_eq_true h1
    by_cases h2 : (n : Int) ≤ 57
    · rw [show decide (48 ≤ n ∧ n ≤ 57) = true by simp; omega]
      have t2 : decide ((n : Int) ≤ 57) = true := decide_eq_true h2
      clear h1 h2
      go_enter Tryz.func119, Tryz.ntmps119
      go_wp2
      go_ret
      exact ⟨rfl, rfl⟩
    · rw [show decide (48 ≤ n ∧ n ≤ 57) = false by simp; omega]
      have t2 : decide ((n : Int) ≤ 57) = false := decide_eq_false h2
      clear h1 h2
      go_enter Tryz.func119, Tryz.ntmps119
      go_wp2
      go_ret
      exact ⟨rfl, rfl⟩
  · rw [show decide (48 ≤ n ∧ n ≤ 57) = false by simp; omega]
    have t1 : decide ((48 : Int) ≤ (n : Int)) = false := decide_eq_false h1
    clear h1
    go_enter Tryz.func119, Tryz.ntmps119
    go_wp2
    go_ret
    exact ⟨rfl, rfl⟩
theorem inComment_any (c : UInt8) (w : World) : Calls Tryz.prog 79 #[.int .u8 (c.toNat : Int)] w (BoolSame (inC c) w) := by
  unfold inC
  generalize c.toNat = n
  by_cases h : n = 10
  · rw [show (!decide (n = 10)) = false by simp [h]]
    have t : ((n : Int) != 10) = false := by simp; omega
    have t2 : ((n : Int) == 10) = true := by simp; omega
    clear h
    go_enter Tryz.func79, Tryz.ntmps79
    go_wp2
    go_ret
    exact ⟨rfl, rfl⟩
  · rw [show (!decide (n = 10)) = true by simp [h]]
    have t : ((n : Int) != 10) = true := by simp; omega
    have t2 : ((n : Int) == 10) = false := by simp; omega
    clear h
    go_enter Tryz.func79, Tryz.ntmps79
    go_wp2
    go_ret
    exact ⟨rfl, rfl⟩
theorem inWord_any (c : UInt8) (w : World) : Calls Tryz.prog 145 #[.int .u8 (c.toNat : Int)] w (BoolSame (inW c) w) := by
  have c1 := Lib.hid (isLetter_any c)
  have c2 := Lib.hid (isDigit_any c)
  unfold inW
  generalize ltr c = a at *
  generalize dgt c = b at *
  generalize c.toNat = n at *
  cases a <;> cases b <;> by_cases h : n = 45
  all_goals
    first | (have t : ((n : Int) == 45) = true := by simp; omega) | (have t : ((n : Int) == 45) = false := by simp; omega)
    first | rw [show decide (n = 45) = true from decide_eq_true h] | rw [show decide (n = 45) = false from decide_eq_false h]
    clear h
    go_enter Tryz.func145, Tryz.ntmps145
    go_wp2_with (first | (go_at_call 81; refine (c1.out _).mono ?_; rintro e w' ⟨rfl, rfl⟩) | (go_at_call 119; refine (c2.out _).mono ?_; rintro e w' ⟨rfl, rfl⟩))
    go_ret
    exact ⟨rfl, rfl⟩
theorem inHour_any (c : UInt8) (w : World) : Calls Tryz.prog 147 #[.int .u8 (c.toNat : Int)] w (BoolSame (inH c) w) := by
  have c2 := Lib.hid (isDigit_any c)
  unfold inH
  generalize dgt c = b at *
  generalize c.toNat = n at *
  by_cases h : n = 45
  · have t : ((n : Int) == 45) = true := by simp; omega
    rw [show decide (n = 45) = true from decide_eq_true h]
    clear h
    cases b
    all_goals
      go_enter Tryz.func147, Tryz.ntmps147
      go_wp2_with (go_at_call 119; refine (c2.out _).mono ?_; rintro e w' ⟨rfl, rfl⟩)
      go_ret
      exact ⟨rfl, rfl⟩
  · have t : ((n : Int) == 45) = false := by simp; omega
    rw [show decide (n = 45) = false from decide_eq_false h]
    by_cases h2 : n = 84
    · have t2 : ((n : Int) == 84) = true := by simp; omega
      rw [show decide (n = 84) = true from decide_eq_true h2]
      clear h h2
      cases b
      all_goals
        go_enter Tryz.func147, Tryz.ntmps147
        go_wp2_with (go_at_call 119; refine (c2.out _).mono ?_; rintro e w' ⟨rfl, rfl⟩)
        go_ret
        exact ⟨rfl, rfl⟩
    · have t2 : ((n : Int) == 84) = false := by simp; omega
      rw [show decide (n = 84) = false from decide_eq_false h2]
      clear h h2
      cases b
      all_goals
        go_enter Tryz.func147, Tryz.ntmps147
        go_wp2_with (go_at_call 119; refine (c2.out _).mono ?_; rintro e w' ⟨rfl, rfl⟩)
        go_ret
        exact ⟨rfl, rfl⟩
set_option maxHeartbeats 1000000 in
theorem span_inComment (s : ByteArray) (w : World) (hs : s.size ≤ 4611686018427387904) : Calls Tryz.prog 78 #[.string s, .func (.func 79) #[] #[]] w (IntSame (spn inC (bl s)) w) := by
  have c := Lib.hid inComment_any
  have hsz := Lib.hid (bl_size s)
  have hget := Lib.hid (bl_get s)
  have heq := Lib.hid (spn_eq inC (bl s))
  go_enter Tryz.func78, Tryz.ntmps78
  go_wp2_with fail
  go_loop [5] (fun i => ∃ k : Nat, k ≤ s.size ∧ i = .int .i64 k ∧ Hid (∀ j, j < k → inC ((bl s).getD j 0) = true)) (fun i => s.size - (RowKit.intOf i).toNat)
  case atStart => exact ⟨0, Nat.zero_le _, rfl, Lib.hid (fun j hj => by omega)⟩
  case round =>
    obtain ⟨k, hk, rfl, hP⟩ := hrel
    by_cases hlt : k < s.size
    · have hg := Lib.hid (hget.out k hlt)
      obtain ⟨b, hb⟩ : ∃ b, inC s[k] = b := ⟨_, rfl⟩
      have c1 := Lib.hid (c.out s[k])
      rw [hb] at c1
      have hb' := Lib.hid hb
      clear hb
      cases b
      · have hv : Hid (spn inC (bl s) = k) := Lib.hid (heq.out k (by rw [hsz.out]; omega) hP.out (fun _ => by rw [hg.out, hb'.out]))
        go_wp2_with (refine (c1.out _).mono ?_; rintro e w' ⟨rfl, rfl⟩)
        go_ret
        exact ⟨by rw [hv.out]; rfl, rfl⟩
      · have hP' : Hid (∀ j, j < k + 1 → inC ((bl s).getD j 0) = true) := Lib.hid (fun j hj => by
          by_cases e : j < k
          · exact hP.out j e
          · obtain rfl : j = k := by omega
            rw [hg.out, hb'.out])
        go_wp2_with (refine (c1.out _).mono ?_; rintro e w' ⟨rfl, rfl⟩)
        go_round
        case rel => exact ⟨k + 1, by omega, by go_num, hP'⟩
        case measure => simp [RowKit.intOf]; omega
    · obtain rfl : k = s.size := by omega
      have hv : Hid (spn inC (bl s) = s.size) := Lib.hid (heq.out s.size (by rw [hsz.out]; omega) hP.out (fun h => by rw [hsz.out] at h; omega))
      go_wp2_with fail
      go_ret
      exact ⟨by rw [hv.out]; rfl, rfl⟩
set_option maxHeartbeats 1000000 in
theorem span_inWord (s : ByteArray) (w : World) (hs : s.size ≤ 4611686018427387904) : Calls Tryz.prog 78 #[.string s, .func (.func 145) #[] #[]] w (IntSame (spn inW (bl s)) w) := by
  have c := Lib.hid inWord_any
  have hsz := Lib.hid (bl_size s)
  have hget := Lib.hid (bl_get s)
  have heq := Lib.hid (spn_eq inW (bl s))
  go_enter Tryz.func78, Tryz.ntmps78
  go_wp2_with fail
  go_loop [5] (fun i => ∃ k : Nat, k ≤ s.size ∧ i = .int .i64 k ∧ Hid (∀ j, j < k → inW ((bl s).getD j 0) = true)) (fun i => s.size - (RowKit.intOf i).toNat)
  case atStart => exact ⟨0, Nat.zero_le _, rfl, Lib.hid (fun j hj => by omega)⟩
  case round =>
    obtain ⟨k, hk, rfl, hP⟩ := hrel
    by_cases hlt : k < s.size
    · have hg := Lib.hid (hget.out k hlt)
      obtain ⟨b, hb⟩ : ∃ b, inW s[k] = b := ⟨_, rfl⟩
      have c1 := Lib.hid (c.out s[k])
      rw [hb] at c1
      have hb' := Lib.hid hb
      clear hb
      cases b
      · have hv : Hid (spn inW (bl s) = k) := Lib.hid (heq.out k (by rw [hsz.out]; omega) hP.out (fun _ => by rw [hg.out, hb'.out]))
        go_wp2_with (refine (c1.out _).mono ?_; rintro e w' ⟨rfl, rfl⟩)
        go_ret
        exact ⟨by rw [hv.out]; rfl, rfl⟩
      · have hP' : Hid (∀ j, j < k + 1 → inW ((bl s).getD j 0) = true) := Lib.hid (fun j hj => by
          by_cases e : j < k
          · exact hP.out j e
          · obtain rfl : j = k := by omega
            rw [hg.out, hb'.out])
        go_wp2_with (refine (c1.out _).mono ?_; rintro e w' ⟨rfl, rfl⟩)
        go_round
        case rel => exact ⟨k + 1, by omega, by go_num, hP'⟩
        case measure => simp [RowKit.intOf]; omega
    · obtain rfl : k = s.size := by omega
      have hv : Hid (spn inW (bl s) = s.size) := Lib.hid (heq.out s.size (by rw [hsz.out]; omega) hP.out (fun h => by rw [hsz.out] at h; omega))
      go_wp2_with fail
      go_ret
      exact ⟨by rw [hv.out]; rfl, rfl⟩
set_option maxHeartbeats 1000000 in
theorem span_isDigit (s : ByteArray) (w : World) (hs : s.size ≤ 4611686018427387904) : Calls Tryz.prog 78 #[.string s, .func (.func 119) #[] #[]] w (IntSame (spn dgt (bl s)) w) := by
  have c := Lib.hid isDigit_any
  have hsz := Lib.hid (bl_size s)
  have hget := Lib.hid (bl_get s)
  have heq := Lib.hid (spn_eq dgt (bl s))
  go_enter Tryz.func78, Tryz.ntmps78
  go_wp2_with fail
  go_loop [5] (fun i => ∃ k : Nat, k ≤ s.size ∧ i = .int .i64 k ∧ Hid (∀ j, j < k → dgt ((bl s).getD j 0) = true)) (fun i => s.size - (RowKit.intOf i).toNat)
  case atStart => exact ⟨0, Nat.zero_le _, rfl, Lib.hid (fun j hj => by omega)⟩
  case round =>
    obtain ⟨k, hk, rfl, hP⟩ := hrel
    by_cases hlt : k < s.size
    · have hg := Lib.hid (hget.out k hlt)
      obtain ⟨b, hb⟩ : ∃ b, dgt s[k] = b := ⟨_, rfl⟩
      have c1 := Lib.hid (c.out s[k])
      rw [hb] at c1
      have hb' := Lib.hid hb
      clear hb
      cases b
      · have hv : Hid (spn dgt (bl s) = k) := Lib.hid (heq.out k (by rw [hsz.out]; omega) hP.out (fun _ => by rw [hg.out, hb'.out]))
        go_wp2_with (refine (c1.out _).mono ?_; rintro e w' ⟨rfl, rfl⟩)
        go_ret
        exact ⟨by rw [hv.out]; rfl, rfl⟩
      · have hP' : Hid (∀ j, j < k + 1 → dgt ((bl s).getD j 0) = true) := Lib.hid (fun j hj => by
          by_cases e : j < k
          · exact hP.out j e
          · obtain rfl : j = k := by omega
            rw [hg.out, hb'.out])
        go_wp2_with (refine (c1.out _).mono ?_; rintro e w' ⟨rfl, rfl⟩)
        go_round
        case rel => exact ⟨k + 1, by omega, by go_num, hP'⟩
        case measure => simp [RowKit.intOf]; omega
    · obtain rfl : k = s.size := by omega
      have hv : Hid (spn dgt (bl s) = s.size) := Lib.hid (heq.out s.size (by rw [hsz.out]; omega) hP.out (fun h => by rw [hsz.out] at h; omega))
      go_wp2_with fail
      go_ret
      exact ⟨by rw [hv.out]; rfl, rfl⟩
set_option maxHeartbeats 1000000 in
theorem span_inHour (s : ByteArray) (w : World) (hs : s.size ≤ 4611686018427387904) : Calls Tryz.prog 78 #[.string s, .func (.func 147) #[] #[]] w (IntSame (spn inH (bl s)) w) := by
  have c := Lib.hid inHour_any
  have hsz := Lib.hid (bl_size s)
  have hget := Lib.hid (bl_get s)
  have heq := Lib.hid (spn_eq inH (bl s))
  go_enter Tryz.func78, Tryz.ntmps78
  go_wp2_with fail
  go_loop [5] (fun i => ∃ k : Nat, k ≤ s.size ∧ i = .int .i64 k ∧ Hid (∀ j, j < k → inH ((bl s).getD j 0) = true)) (fun i => s.size - (RowKit.intOf i).toNat)
  case atStart => exact ⟨0, Nat.zero_le _, rfl, Lib.hid (fun j hj => by omega)⟩
  case round =>
    obtain ⟨k, hk, rfl, hP⟩ := hrel
    by_cases hlt : k < s.size
    · have hg := Lib.hid (hget.out k hlt)
      obtain ⟨b, hb⟩ : ∃ b, inH s[k] = b := ⟨_, rfl⟩
      have c1 := Lib.hid (c.out s[k])
      rw [hb] at c1
      have hb' := Lib.hid hb
      clear hb
      cases b
      · have hv : Hid (spn inH (bl s) = k) := Lib.hid (heq.out k (by rw [hsz.out]; omega) hP.out (fun _ => by rw [hg.out, hb'.out]))
        go_wp2_with (refine (c1.out _).mono ?_; rintro e w' ⟨rfl, rfl⟩)
        go_ret
        exact ⟨by rw [hv.out]; rfl, rfl⟩
      · have hP' : Hid (∀ j, j < k + 1 → inH ((bl s).getD j 0) = true) := Lib.hid (fun j hj => by
          by_cases e : j < k
          · exact hP.out j e
          · obtain rfl : j = k := by omega
            rw [hg.out, hb'.out])
        go_wp2_with (refine (c1.out _).mono ?_; rintro e w' ⟨rfl, rfl⟩)
        go_round
        case rel => exact ⟨k + 1, by omega, by go_num, hP'⟩
        case measure => simp [RowKit.intOf]; omega
    · obtain rfl : k = s.size := by omega
      have hv : Hid (spn inH (bl s) = s.size) := Lib.hid (heq.out s.size (by rw [hsz.out]; omega) hP.out (fun h => by rw [hsz.out] at h; omega))
      go_wp2_with fail
      go_ret
      exact ⟨by rw [hv.out]; rfl, rfl⟩
end Go.Proofs.YtjmipikahaoblaaGreatDoor.Lx
namespace Go.Proofs.YtjmipikahaoblaaGreatDoor.Lx
open Go.RowKit Go.Lib Go.Proofs.YtjmipikahaoblaaGreatDoor.Bas Go.Proofs.YtjmipikahaoblaaGreatDoor.Cal
set_option linter.unusedVariables false

theorem toList_bl (s : ByteArray) : s.toList = bl s := ByteArray.toList_eq s
theorem isEmpty_no (s : ByteArray) (h : 0 < s.size) : s.toList.isEmpty = false := by
  rw [toList_bl]
  have := bl_size s
  cases hb : bl s with
  | nil => rw [hb] at this; simp at this; omega
  | cons c r => rfl
theorem bl_nil (s : ByteArray) (h : s.size = 0) : s = { data := #[] } := by
  have h1 : bl s = [] := List.length_eq_zero_iff.1 (by rw [bl_size]; exact h)
  rw [← tx_bl s, h1]; rfl
theorem wordB_bl (s : ByteArray) (h : 0 < s.size) : wordB (bl s) = decide (s.size ≤ 16 ∧ ltr s[0] = true ∧ (s[s.size - 1]'(by omega)).toNat ≠ 45 ∧ spn inW (bl s) = s.size) := by
  unfold wordB
  congr 1
  rw [bl_size, bl_get s 0 h, bl_get s (s.size - 1) (by omega), ← spn_all, bl_size]
  simp
  omega

theorem isWord_empty (w : World) : Calls Tryz.prog 137 #[.string { data := #[] }] w (BoolSame false w) := by
  go_enter Tryz.func137, Tryz.ntmps137
  go_wp2_with fail
  go_ret
  exact ⟨rfl, rfl⟩
theorem isWord_long (s : ByteArray) (w : World) (h1 : 16 < s.size) (h2 : s.size ≤ 9223372036854775807) : Calls Tryz.prog 137 #[.string s] w (BoolSame false w) := by
  have e := isEmpty_no s (by omega)
  have t1 : decide ((16 : Int) < (s.size : Int)) = true := by simp; omega
  have t2 : decide (16 < s.size) = true := by simp; omega
  go_enter Tryz.func137, Tryz.ntmps137
  go_wp2_with fail
  all_goals (try (exfalso; omega; done))
  go_ret
  exact ⟨rfl, rfl⟩
theorem isWord_mid (s : ByteArray) (w : World) (h0 : 0 < s.size) (h1 : s.size ≤ 16) (a b : Bool) (ha : ltr s[0] = a) (hb : ((s[s.size - 1]'(by omega)).toNat : Int) = 45 ↔ b = true) (r : Bool) (hr : r = decide (s.size ≤ 16 ∧ a = true ∧ ¬ (b = true) ∧ spn inW (bl s) = s.size)) :
    Calls Tryz.prog 137 #[.string s] w (BoolSame r w) := by
  have e := isEmpty_no s h0
  have c1 := Lib.hid (isLetter_any s[0])
  rw [ha] at c1
  have c2 := Lib.hid (span_inWord s w (by omega))
  have hsp := spn_le inW (bl s)
  rw [bl_size] at hsp
  have i1 : (0 : Int) ≤ (s.size : Int) - 1 := by omega
  have i2 : (s.size : Int) - 1 < (s.size : Int) := by omega
  have i3 : ((s.size : Int) - 1).toNat = s.size - 1 := by omega
  have i4 : IntKind.i64.wrap ((s.size : Int) - 1) = (s.size : Int) - 1 := IntWalk.i64_in _ (by omega)
  have i5 : s.size - 1 < s.size := by omega
  have t1 : decide ((16 : Int) < (s.size : Int)) = false := by simp; omega
  have t2 : decide (16 < s.size) = false := by simp; omega
  generalize spn inW (bl s) = k at *
  have hr' := Lib.hid hr
  clear hr ha
  cases a with
  | false =>
    obtain rfl : r = false := by rw [hr'.out]; simp
    clear hb
    go_enter Tryz.func137, Tryz.ntmps137
    go_wp2_with (go_at_call 81; refine (c1.out _).mono ?_; rintro e w' ⟨rfl, rfl⟩)
    all_goals (try (exfalso; omega; done))
    go_ret
    exact ⟨rfl, rfl⟩
  | true =>
    cases b with
    | true =>
      obtain rfl : r = false := by rw [hr'.out]; simp
      have q : (((s[s.size - 1]'(by omega)).toNat : Int) == 45) = true := by simpa using hb.2 rfl
      clear hb
      go_enter Tryz.func137, Tryz.ntmps137
      go_wp2_with (go_at_call 81; refine (c1.out _).mono ?_; rintro e w' ⟨rfl, rfl⟩)
      all_goals (try (exfalso; omega; done))
      go_ret
      exact ⟨rfl, rfl⟩
    | false =>
      have q : (((s[s.size - 1]'(by omega)).toNat : Int) == 45) = false := by
        have : ¬ (((s[s.size - 1]'(by omega)).toNat : Int) = 45) := fun h => by simpa using hb.1 h
        simpa using this
      clear hb
      by_cases hk : k = s.size
      · obtain rfl : r = true := by rw [hr'.out]; simp [hk]; omega
        have u1 : ((k : Int) == (s.size : Int)) = true := by simp; omega
        clear hk
        go_enter Tryz.func137, Tryz.ntmps137
        go_wp2_with (go_at_call 81; refine (c1.out _).mono ?_; rintro e w' ⟨rfl, rfl⟩)
        all_goals (try (exfalso; omega; done))
        refine c2.out.mono ?_; rintro e w' ⟨rfl, rfl⟩
        go_wp2_with fail
        go_ret
        exact ⟨rfl, rfl⟩
      · obtain rfl : r = false := by rw [hr'.out]; simp [hk]
        have u1 : ((k : Int) == (s.size : Int)) = false := by simp; omega
        clear hk
        go_enter Tryz.func137, Tryz.ntmps137
        go_wp2_with (go_at_call 81; refine (c1.out _).mono ?_; rintro e w' ⟨rfl, rfl⟩)
        all_goals (try (exfalso; omega; done))
        refine c2.out.mono ?_; rintro e w' ⟨rfl, rfl⟩
        go_wp2_with fail
        go_ret
        exact ⟨rfl, rfl⟩
theorem isWord_any (s : ByteArray) (w : World) (hs : s.size ≤ 9223372036854775807) : Calls Tryz.prog 137 #[.string s] w (BoolSame (wordB (bl s)) w) := by
  by_cases h0 : 0 < s.size
  · by_cases h1 : 16 < s.size
    · rw [wordB_bl s h0, decide_eq_false (by omega)]
      exact isWord_long s w h1 hs
    · rw [wordB_bl s h0]
      refine isWord_mid s w h0 (by omega) (ltr s[0]) (decide ((s[s.size - 1]'(by omega)).toNat = 45)) rfl ?_ _ ?_
      · simp; omega
      · congr 1; simp
  · obtain rfl := bl_nil s (by omega)
    exact isWord_empty w
end Go.Proofs.YtjmipikahaoblaaGreatDoor.Lx
namespace Go.Proofs.YtjmipikahaoblaaGreatDoor.Lx
open Go.RowKit Go.Lib Go.Proofs.YtjmipikahaoblaaGreatDoor.Bas Go.Proofs.YtjmipikahaoblaaGreatDoor.Cal
set_option linter.unusedVariables false

/-- Is it reserved? -/
def resB (l : List UInt8) : Bool := (l == [97, 110, 100]) || ((l == [97, 118, 101, 114, 97, 103, 101]) || ((l == [99, 111, 105, 110, 115, 117, 114, 97, 110, 99, 101]) || ((l == [99, 111, 110, 100, 105, 116, 105, 111, 110]) || ((l == [99, 111, 118, 101, 114]) || ((l == [100, 101, 100, 117, 99, 116, 105, 98, 108, 101]) || ((l == [100, 101, 102, 105, 110, 101]) || ((l == [101, 110, 100]) || ((l == [101, 110, 100, 111, 114, 115, 101]) || ((l == [101, 120, 99, 108, 117, 100, 101]) || ((l == [102, 97, 108, 115, 101]) || ((l == [102, 114, 97, 110, 99, 104, 105, 115, 101]) || ((l == [102, 114, 111, 109]) || ((l == [105, 110]) || ((l == [108, 105, 109, 105, 116]) || ((l == [110, 111, 116]) || ((l == [111, 114]) || ((l == [114, 101, 109, 111, 118, 101]) || ((l == [115, 117, 98, 108, 105, 109, 105, 116]) || ((l == [116, 111]) || ((l == [116, 114, 117, 101]) || ((l == [117, 110, 108, 101, 115, 115]) || ((l == [119, 104, 101, 110])))))))))))))))))))))))
set_option maxHeartbeats 8000000 in
theorem reserved_any (s : ByteArray) (w : World) : Calls Tryz.prog 156 #[.string s] w (BoolSame (resB (bl s)) w) := by
  cases t0 : (s.toList == [97, 110, 100])
  case true =>
    have hr : resB (bl s) = true := by rw [← toList_bl]; simp only [resB, t0, Bool.true_or]
    rw [hr]
    clear hr
    go_enter Tryz.func156, Tryz.ntmps156
    go_wp2_with fail
    go_ret
    exact ⟨rfl, rfl⟩
  cases t1 : (s.toList == [97, 118, 101, 114, 97, 103, 101])
  case true =>
    have hr : resB (bl s) = true := by rw [← toList_bl]; simp only [resB, t0, t1, Bool.true_or, Bool.false_or]
    rw [hr]
    clear hr
    go_enter Tryz.func156, Tryz.ntmps156
    go_wp2_with fail
    go_ret
    exact ⟨rfl, rfl⟩
  cases t2 : (s.toList == [99, 111, 105, 110, 115, 117, 114, 97, 110, 99, 101])
  case true =>
    have hr : resB (bl s) = true := by rw [← toList_bl]; simp only [resB, t0, t1, t2, Bool.true_or, Bool.false_or]
    rw [hr]
    clear hr
    go_enter Tryz.func156, Tryz.ntmps156
    go_wp2_with fail
    go_ret
    exact ⟨rfl, rfl⟩
  cases t3 : (s.toList == [99, 111, 110, 100, 105, 116, 105, 111, 110])
  case true =>
    have hr : resB (bl s) = true := by rw [← toList_bl]; simp only [resB, t0, t1, t2, t3, Bool.true_or, Bool.false_or]
    rw [hr]
    clear hr
    go_enter Tryz.func156, Tryz.ntmps156
    go_wp2_with fail
    go_ret
    exact ⟨rfl, rfl⟩
  cases t4 : (s.toList == [99, 111, 118, 101, 114])
  case true =>
    have hr : resB (bl s) = true := by rw [← toList_bl]; simp only [resB, t0, t1, t2, t3, t4, Bool.true_or, Bool.false_or]
    rw [hr]
    clear hr
    go_enter Tryz.func156, Tryz.ntmps156
    go_wp2_with fail
    go_ret
    exact ⟨rfl, rfl⟩
  cases t5 : (s.toList == [100, 101, 100, 117, 99, 116, 105, 98, 108, 101])
  case true =>
    have hr : resB (bl s) = true := by rw [← toList_bl]; simp only [resB, t0, t1, t2, t3, t4, t5, Bool.true_or, Bool.false_or]
    rw [hr]
    clear hr
    go_enter Tryz.func156, Tryz.ntmps156
    go_wp2_with fail
    go_ret
    exact ⟨rfl, rfl⟩
  cases t6 : (s.toList == [100, 101, 102, 105, 110, 101])
  case true =>
    have hr : resB (bl s) = true := by rw [← toList_bl]; simp only [resB, t0, t1, t2, t3, t4, t5, t6, Bool.true_or, Bool.false_or]
    rw [hr]
    clear hr
    go_enter Tryz.func156, Tryz.ntmps156
    go_wp2_with fail
    go_ret
    exact ⟨rfl, rfl⟩
  cases t7 : (s.toList == [101, 110, 100])
  case true =>
    have hr : resB (bl s) = true := by rw [← toList_bl]; simp only [resB, t0, t1, t2, t3, t4, t5, t6, t7, Bool.true_or, Bool.false_or]
    rw [hr]
    clear hr
    go_enter Tryz.func156, Tryz.ntmps156
    go_wp2_with fail
    go_ret
    exact ⟨rfl, rfl⟩
  cases t8 : (s.toList == [101, 110, 100, 111, 114, 115, 101])
  case true =>
    have hr : resB (bl s) = true := by rw [← toList_bl]; simp only [resB, t0, t1, t2, t3, t4, t5, t6, t7, t8, Bool.true_or, Bool.false_or]
    rw [hr]
    clear hr
    go_enter Tryz.func156, Tryz.ntmps156
    go_wp2_with fail
    go_ret
    exact ⟨rfl, rfl⟩
  cases t9 : (s.toList == [101, 120, 99, 108, 117, 100, 101])
  case true =>
    have hr : resB (bl s) = true := by rw [← toList_bl]; simp only [resB, t0, t1, t2, t3, t4, t5, t6, t7, t8, t9, Bool.true_or, Bool.false_or]
    rw [hr]
    clear hr
    go_enter Tryz.func156, Tryz.ntmps156
    go_wp2_with fail
    go_ret
    exact ⟨rfl, rfl⟩
  cases t10 : (s.toList == [102, 97, 108, 115, 101])
  case true =>
    have hr : resB (bl s) = true := by rw [← toList_bl]; simp only [resB, t0, t1, t2, t3, t4, t5, t6, t7, t8, t9, t10, Bool.true_or, Bool.false_or]
    rw [hr]
    clear hr
    go_enter Tryz.func156, Tryz.ntmps156
    go_wp2_with fail
    go_ret
    exact ⟨rfl, rfl⟩
  cases t11 : (s.toList == [102, 114, 97, 110, 99, 104, 105, 115, 101])
  case true =>
    have hr : resB (bl s) = true := by rw [← toList_bl]; simp only [resB, t0, t1, t2, t3, t4, t5, t6, t7, t8, t9, t10, t11, Bool.true_or, Bool.false_or]
    rw [hr]
    clear hr
    go_enter Tryz.func156, Tryz.ntmps156
    go_wp2_with fail
    go_ret
    exact ⟨rfl, rfl⟩
  cases t12 : (s.toList == [102, 114, 111, 109])
  case true =>
    have hr : resB (bl s) = true := by rw [← toList_bl]; simp only [resB, t0, t1, t2, t3, t4, t5, t6, t7, t8, t9, t10, t11, t12, Bool.true_or, Bool.false_or]
    rw [hr]
    clear hr
    go_enter Tryz.func156, Tryz.ntmps156
    go_wp2_with fail
    go_ret
    exact ⟨rfl, rfl⟩
  cases t13 : (s.toList == [105, 110])
  case true =>
    have hr : resB (bl s) = true := by rw [← toList_bl]; simp only [resB, t0, t1, t2, t3, t4, t5, t6, t7, t8, t9, t10, t11, t12, t13, Bool.true_or, Bool.false_or]
    rw [hr]
    clear hr
    go_enter Tryz.func156, Tryz.ntmps156
    go_wp2_with fail
    go_ret
    exact ⟨rfl, rfl⟩
  cases t14 : (s.toList == [108, 105, 109, 105, 116])
  case true =>
    have hr : resB (bl s) = true := by rw [← toList_bl]; simp only [resB, t0, t1, t2, t3, t4, t5, t6, t7, t8, t9, t10, t11, t12, t13, t14, Bool.true_or, Bool.false_or]
    rw [hr]
    clear hr
    go_enter Tryz.func156, Tryz.ntmps156
    go_wp2_with fail
    go_ret
    exact ⟨rfl, rfl⟩
  cases t15 : (s.toList == [110, 111, 116])
  case true =>
    have hr : resB (bl s) = true := by rw [← toList_bl]; simp only [resB, t0, t1, t2, t3, t4, t5, t6, t7, t8, t9, t10, t11, t12, t13, t14, t15, Bool.true_or, Bool.false_or]
    rw [hr]
    clear hr
    go_enter Tryz.func156, Tryz.ntmps156
    go_wp2_with fail
    go_ret
    exact ⟨rfl, rfl⟩
  cases t16 : (s.toList == [111, 114])
  case true =>
    have hr : resB (bl s) = true := by rw [← toList_bl]; simp only [resB, t0, t1, t2, t3, t4, t5, t6, t7, t8, t9, t10, t11, t12, t13, t14, t15, t16, Bool.true_or, Bool.false_or]
    rw [hr]
    clear hr
    go_enter Tryz.func156, Tryz.ntmps156
    go_wp2_with fail
    go_ret
    exact ⟨rfl, rfl⟩
  cases t17 : (s.toList == [114, 101, 109, 111, 118, 101])
  case true =>
    have hr : resB (bl s) = true := by rw [← toList_bl]; simp only [resB, t0, t1, t2, t3, t4, t5, t6, t7, t8, t9, t10, t11, t12, t13, t14, t15, t16, t17, Bool.true_or, Bool.false_or]
    rw [hr]
    clear hr
    go_enter Tryz.func156, Tryz.ntmps156
    go_wp2_with fail
    go_ret
    exact ⟨rfl, rfl⟩
  cases t18 : (s.toList == [115, 117, 98, 108, 105, 109, 105, 116])
  case true =>
    have hr : resB (bl s) = true := by rw [← toList_bl]; simp only [resB, t0, t1, t2, t3, t4, t5, t6, t7, t8, t9, t10, t11, t12, t13, t14, t15, t16, t17, t18, Bool.true_or, Bool.false_or]
    rw [hr]
    clear hr
    go_enter Tryz.func156, Tryz.ntmps156
    go_wp2_with fail
    go_ret
    exact ⟨rfl, rfl⟩
  cases t19 : (s.toList == [116, 111])
  case true =>
    have hr : resB (bl s) = true := by rw [← toList_bl]; simp only [resB, t0, t1, t2, t3, t4, t5, t6, t7, t8, t9, t10, t11, t12, t13, t14, t15, t16, t17, t18, t19, Bool.true_or, Bool.false_or]
    rw [hr]
    clear hr
    go_enter Tryz.func156, Tryz.ntmps156
    go_wp2_with fail
    go_ret
    exact ⟨rfl, rfl⟩
  cases t20 : (s.toList == [116, 114, 117, 101])
  case true =>
    have hr : resB (bl s) = true := by rw [← toList_bl]; simp only [resB, t0, t1, t2, t3, t4, t5, t6, t7, t8, t9, t10, t11, t12, t13, t14, t15, t16, t17, t18, t19, t20, Bool.true_or, Bool.false_or]
    rw [hr]
    clear hr
    go_enter Tryz.func156, Tryz.ntmps156
    go_wp2_with fail
    go_ret
    exact ⟨rfl, rfl⟩
  cases t21 : (s.toList == [117, 110, 108, 101, 115, 115])
  case true =>
    have hr : resB (bl s) = true := by rw [← toList_bl]; simp only [resB, t0, t1, t2, t3, t4, t5, t6, t7, t8, t9, t10, t11, t12, t13, t14, t15, t16, t17, t18, t19, t20, t21, Bool.true_or, Bool.false_or]
    rw [hr]
    clear hr
    go_enter Tryz.func156, Tryz.ntmps156
    go_wp2_with fail
    go_ret
    exact ⟨rfl, rfl⟩
  cases t22 : (s.toList == [119, 104, 101, 110])
  case true =>
    have hr : resB (bl s) = true := by rw [← toList_bl]; simp only [resB, t0, t1, t2, t3, t4, t5, t6, t7, t8, t9, t10, t11, t12, t13, t14, t15, t16, t17, t18, t19, t20, t21, t22, Bool.false_or]
    rw [hr]
    clear hr
    go_enter Tryz.func156, Tryz.ntmps156
    go_wp2_with fail
    go_ret
    exact ⟨rfl, rfl⟩
  have hr : resB (bl s) = false := by rw [← toList_bl]; simp only [resB, t0, t1, t2, t3, t4, t5, t6, t7, t8, t9, t10, t11, t12, t13, t14, t15, t16, t17, t18, t19, t20, t21, t22, Bool.false_or]
  rw [hr]
  clear hr
  go_enter Tryz.func156, Tryz.ntmps156
  go_wp2_with fail
  go_ret
  exact ⟨rfl, rfl⟩
set_option maxHeartbeats 8000000 in
theorem rreserved_any (s : ByteArray) (w : World) : Calls Tryz.prog 130 #[.string s] w (BoolSame (resB (bl s)) w) := by
  cases t0 : (s.toList == [97, 110, 100])
  case true =>
    have hr : resB (bl s) = true := by rw [← toList_bl]; simp only [resB, t0, Bool.true_or]
    rw [hr]
    clear hr
    go_enter Tryz.func130, Tryz.ntmps130
    go_wp2_with fail
    go_ret
    exact ⟨rfl, rfl⟩
  cases t1 : (s.toList == [97, 118, 101, 114, 97, 103, 101])
  case true =>
    have hr : resB (bl s) = true := by rw [← toList_bl]; simp only [resB, t0, t1, Bool.true_or, Bool.false_or]
    rw [hr]
    clear hr
    go_enter Tryz.func130, Tryz.ntmps130
    go_wp2_with fail
    go_ret
    exact ⟨rfl, rfl⟩
  cases t2 : (s.toList == [99, 111, 105, 110, 115, 117, 114, 97, 110, 99, 101])
  case true =>
    have hr : resB (bl s) = true := by rw [← toList_bl]; simp only [resB, t0, t1, t2, Bool.true_or, Bool.false_or]
    rw [hr]
    clear hr
    go_enter Tryz.func130, Tryz.ntmps130
    go_wp2_with fail
    go_ret
    exact ⟨rfl, rfl⟩
  cases t3 : (s.toList == [99, 111, 110, 100, 105, 116, 105, 111, 110])
  case true =>
    have hr : resB (bl s) = true := by rw [← toList_bl]; simp only [resB, t0, t1, t2, t3, Bool.true_or, Bool.false_or]
    rw [hr]
    clear hr
    go_enter Tryz.func130, Tryz.ntmps130
    go_wp2_with fail
    go_ret
    exact ⟨rfl, rfl⟩
  cases t4 : (s.toList == [99, 111, 118, 101, 114])
  case true =>
    have hr : resB (bl s) = true := by rw [← toList_bl]; simp only [resB, t0, t1, t2, t3, t4, Bool.true_or, Bool.false_or]
    rw [hr]
    clear hr
    go_enter Tryz.func130, Tryz.ntmps130
    go_wp2_with fail
    go_ret
    exact ⟨rfl, rfl⟩
  cases t5 : (s.toList == [100, 101, 100, 117, 99, 116, 105, 98, 108, 101])
  case true =>
    have hr : resB (bl s) = true := by rw [← toList_bl]; simp only [resB, t0, t1, t2, t3, t4, t5, Bool.true_or, Bool.false_or]
    rw [hr]
    clear hr
    go_enter Tryz.func130, Tryz.ntmps130
    go_wp2_with fail
    go_ret
    exact ⟨rfl, rfl⟩
  cases t6 : (s.toList == [100, 101, 102, 105, 110, 101])
  case true =>
    have hr : resB (bl s) = true := by rw [← toList_bl]; simp only [resB, t0, t1, t2, t3, t4, t5, t6, Bool.true_or, Bool.false_or]
    rw [hr]
    clear hr
    go_enter Tryz.func130, Tryz.ntmps130
    go_wp2_with fail
    go_ret
    exact ⟨rfl, rfl⟩
  cases t7 : (s.toList == [101, 110, 100])
  case true =>
    have hr : resB (bl s) = true := by rw [← toList_bl]; simp only [resB, t0, t1, t2, t3, t4, t5, t6, t7, Bool.true_or, Bool.false_or]
    rw [hr]
    clear hr
    go_enter Tryz.func130, Tryz.ntmps130
    go_wp2_with fail
    go_ret
    exact ⟨rfl, rfl⟩
  cases t8 : (s.toList == [101, 110, 100, 111, 114, 115, 101])
  case true =>
    have hr : resB (bl s) = true := by rw [← toList_bl]; simp only [resB, t0, t1, t2, t3, t4, t5, t6, t7, t8, Bool.true_or, Bool.false_or]
    rw [hr]
    clear hr
    go_enter Tryz.func130, Tryz.ntmps130
    go_wp2_with fail
    go_ret
    exact ⟨rfl, rfl⟩
  cases t9 : (s.toList == [101, 120, 99, 108, 117, 100, 101])
  case true =>
    have hr : resB (bl s) = true := by rw [← toList_bl]; simp only [resB, t0, t1, t2, t3, t4, t5, t6, t7, t8, t9, Bool.true_or, Bool.false_or]
    rw [hr]
    clear hr
    go_enter Tryz.func130, Tryz.ntmps130
    go_wp2_with fail
    go_ret
    exact ⟨rfl, rfl⟩
  cases t10 : (s.toList == [102, 97, 108, 115, 101])
  case true =>
    have hr : resB (bl s) = true := by rw [← toList_bl]; simp only [resB, t0, t1, t2, t3, t4, t5, t6, t7, t8, t9, t10, Bool.true_or, Bool.false_or]
    rw [hr]
    clear hr
    go_enter Tryz.func130, Tryz.ntmps130
    go_wp2_with fail
    go_ret
    exact ⟨rfl, rfl⟩
  cases t11 : (s.toList == [102, 114, 97, 110, 99, 104, 105, 115, 101])
  case true =>
    have hr : resB (bl s) = true := by rw [← toList_bl]; simp only [resB, t0, t1, t2, t3, t4, t5, t6, t7, t8, t9, t10, t11, Bool.true_or, Bool.false_or]
    rw [hr]
    clear hr
    go_enter Tryz.func130, Tryz.ntmps130
    go_wp2_with fail
    go_ret
    exact ⟨rfl, rfl⟩
  cases t12 : (s.toList == [102, 114, 111, 109])
  case true =>
    have hr : resB (bl s) = true := by rw [← toList_bl]; simp only [resB, t0, t1, t2, t3, t4, t5, t6, t7, t8, t9, t10, t11, t12, Bool.true_or, Bool.false_or]
    rw [hr]
    clear hr
    go_enter Tryz.func130, Tryz.ntmps130
    go_wp2_with fail
    go_ret
    exact ⟨rfl, rfl⟩
  cases t13 : (s.toList == [105, 110])
  case true =>
    have hr : resB (bl s) = true := by rw [← toList_bl]; simp only [resB, t0, t1, t2, t3, t4, t5, t6, t7, t8, t9, t10, t11, t12, t13, Bool.true_or, Bool.false_or]
    rw [hr]
    clear hr
    go_enter Tryz.func130, Tryz.ntmps130
    go_wp2_with fail
    go_ret
    exact ⟨rfl, rfl⟩
  cases t14 : (s.toList == [108, 105, 109, 105, 116])
  case true =>
    have hr : resB (bl s) = true := by rw [← toList_bl]; simp only [resB, t0, t1, t2, t3, t4, t5, t6, t7, t8, t9, t10, t11, t12, t13, t14, Bool.true_or, Bool.false_or]
    rw [hr]
    clear hr
    go_enter Tryz.func130, Tryz.ntmps130
    go_wp2_with fail
    go_ret
    exact ⟨rfl, rfl⟩
  cases t15 : (s.toList == [110, 111, 116])
  case true =>
    have hr : resB (bl s) = true := by rw [← toList_bl]; simp only [resB, t0, t1, t2, t3, t4, t5, t6, t7, t8, t9, t10, t11, t12, t13, t14, t15, Bool.true_or, Bool.false_or]
    rw [hr]
    clear hr
    go_enter Tryz.func130, Tryz.ntmps130
    go_wp2_with fail
    go_ret
    exact ⟨rfl, rfl⟩
  cases t16 : (s.toList == [111, 114])
  case true =>
    have hr : resB (bl s) = true := by rw [← toList_bl]; simp only [resB, t0, t1, t2, t3, t4, t5, t6, t7, t8, t9, t10, t11, t12, t13, t14, t15, t16, Bool.true_or, Bool.false_or]
    rw [hr]
    clear hr
    go_enter Tryz.func130, Tryz.ntmps130
    go_wp2_with fail
    go_ret
    exact ⟨rfl, rfl⟩
  cases t17 : (s.toList == [114, 101, 109, 111, 118, 101])
  case true =>
    have hr : resB (bl s) = true := by rw [← toList_bl]; simp only [resB, t0, t1, t2, t3, t4, t5, t6, t7, t8, t9, t10, t11, t12, t13, t14, t15, t16, t17, Bool.true_or, Bool.false_or]
    rw [hr]
    clear hr
    go_enter Tryz.func130, Tryz.ntmps130
    go_wp2_with fail
    go_ret
    exact ⟨rfl, rfl⟩
  cases t18 : (s.toList == [115, 117, 98, 108, 105, 109, 105, 116])
  case true =>
    have hr : resB (bl s) = true := by rw [← toList_bl]; simp only [resB, t0, t1, t2, t3, t4, t5, t6, t7, t8, t9, t10, t11, t12, t13, t14, t15, t16, t17, t18, Bool.true_or, Bool.false_or]
    rw [hr]
    clear hr
    go_enter Tryz.func130, Tryz.ntmps130
    go_wp2_with fail
    go_ret
    exact ⟨rfl, rfl⟩
  cases t19 : (s.toList == [116, 111])
  case true =>
    have hr : resB (bl s) = true := by rw [← toList_bl]; simp only [resB, t0, t1, t2, t3, t4, t5, t6, t7, t8, t9, t10, t11, t12, t13, t14, t15, t16, t17, t18, t19, Bool.true_or, Bool.false_or]
    rw [hr]
    clear hr
    go_enter Tryz.func130, Tryz.ntmps130
    go_wp2_with fail
    go_ret
    exact ⟨rfl, rfl⟩
  cases t20 : (s.toList == [116, 114, 117, 101])
  case true =>
    have hr : resB (bl s) = true := by rw [← toList_bl]; simp only [resB, t0, t1, t2, t3, t4, t5, t6, t7, t8, t9, t10, t11, t12, t13, t14, t15, t16, t17, t18, t19, t20, Bool.true_or, Bool.false_or]
    rw [hr]
    clear hr
    go_enter Tryz.func130, Tryz.ntmps130
    go_wp2_with fail
    go_ret
    exact ⟨rfl, rfl⟩
  cases t21 : (s.toList == [117, 110, 108, 101, 115, 115])
  case true =>
    have hr : resB (bl s) = true := by rw [← toList_bl]; simp only [resB, t0, t1, t2, t3, t4, t5, t6, t7, t8, t9, t10, t11, t12, t13, t14, t15, t16, t17, t18, t19, t20, t21, Bool.true_or, Bool.false_or]
    rw [hr]
    clear hr
    go_enter Tryz.func130, Tryz.ntmps130
    go_wp2_with fail
    go_ret
    exact ⟨rfl, rfl⟩
  cases t22 : (s.toList == [119, 104, 101, 110])
  case true =>
    have hr : resB (bl s) = true := by rw [← toList_bl]; simp only [resB, t0, t1, t2, t3, t4, t5, t6, t7, t8, t9, t10, t11, t12, t13, t14, t15, t16, t17, t18, t19, t20, t21, t22, Bool.false_or]
    rw [hr]
    clear hr
    go_enter Tryz.func130, Tryz.ntmps130
    go_wp2_with fail
    go_ret
    exact ⟨rfl, rfl⟩
  have hr : resB (bl s) = false := by rw [← toList_bl]; simp only [resB, t0, t1, t2, t3, t4, t5, t6, t7, t8, t9, t10, t11, t12, t13, t14, t15, t16, t17, t18, t19, t20, t21, t22, Bool.false_or]
  rw [hr]
  clear hr
  go_enter Tryz.func130, Tryz.ntmps130
  go_wp2_with fail
  go_ret
  exact ⟨rfl, rfl⟩
theorem name_any (s : ByteArray) (w : World) (hs : s.size ≤ 9223372036854775807) : Calls Tryz.prog 128 #[.string s] w (BoolSame (wordB (bl s) && !resB (bl s)) w) := by
  have c1 := Lib.hid (isWord_any s w hs)
  have c2 := Lib.hid (reserved_any s w)
  generalize wordB (bl s) = a at *
  generalize resB (bl s) = b at *
  cases a <;> cases b
  all_goals
    go_enter Tryz.func128, Tryz.ntmps128
    go_wp2_with (first | (go_at_call 137; refine c1.out.mono ?_; rintro e w' ⟨rfl, rfl⟩) | (go_at_call 156; refine c2.out.mono ?_; rintro e w' ⟨rfl, rfl⟩))
    go_ret
    exact ⟨rfl, rfl⟩
end Go.Proofs.YtjmipikahaoblaaGreatDoor.Lx
namespace Go.Proofs.YtjmipikahaoblaaGreatDoor.Sc
open Go.RowKit Go.Lib Go.Proofs.YtjmipikahaoblaaGreatDoor.Bas Go.Proofs.YtjmipikahaoblaaGreatDoor.Cal Go.Proofs.YtjmipikahaoblaaGreatDoor.Lx
set_option linter.unusedVariables false

/-- An attribute. -/
structure At where
  nm : List UInt8
  k : Int
  ws : List (List UInt8)
  lo : Int
  hi : Int
def a0 : At := ⟨[], 0, [], 0, 0⟩
def at' (L : List At) (i : Nat) : At := L.getD i a0
theorem at_at (L : List At) (i : Nat) (h : i < L.length) : at' L i = L[i] := by
  unfold at'; rw [List.getD_eq_getElem?_getD, List.getElem?_eq_getElem h]; rfl
def nameB (l : List UInt8) : Bool := wordB l && !resB l
/-- Do the elements differ from each other? -/
def distB (l : List (List UInt8)) : Bool := decide (∀ i, i < l.length → ∀ k, k < i → l.getD i [] ≠ l.getD k [])
def namesB (l : List (List UInt8)) : Bool := decide (∀ i, i < l.length → nameB (l.getD i []) = true)
def farB (n : Int) : Bool := decide (n > 1000000000) || decide (n < -1000000000)
/-- The error of what belongs to an attribute's kind. -/
def attE (a : At) : Int :=
  if a.k = 1 then (if a.lo ≠ 0 ∨ a.hi ≠ 0 then 20 else if a.ws.length = 0 then 19 else if 12 < a.ws.length then 4 else if namesB a.ws = false then 6 else if distB a.ws = false then 8 else 0)
  else if a.k = 2 then (if 0 < a.ws.length then 20 else if a.hi < a.lo ∨ farB a.lo = true ∨ farB a.hi = true then 1 else 0)
  else if a.k = 3 then (if 0 < a.ws.length ∨ a.lo ≠ 0 ∨ a.hi ≠ 0 then 20 else 0)
  else 11
/-- Has an earlier attribute its name? -/
def dupB (L : List At) (i : Nat) : Bool := !decide (∀ k, k < i → (at' L k).nm ≠ (at' L i).nm)
/-- The error of the attribute i. -/
def atE (L : List At) (i : Nat) : Int :=
  if nameB (at' L i).nm = false then 6
  else if dupB L i = true then 8
  else attE (at' L i)
/-- The first error from the attribute i on. -/
def fromE (L : List At) : Nat → Nat → Int
  | 0, _ => 0
  | n + 1, i => if atE L i ≠ 0 then atE L i else fromE L n (i + 1)
def schE (L : List At) : Int := if L.length = 0 then 19 else if 6 < L.length then 4 else fromE L L.length 0
/-- The domain of an attribute. -/
def domV (a : At) : Int × Int := if a.k = 1 then (0, (a.ws.length : Int) - 1) else if a.k = 2 then (a.lo, a.hi) else (0, 1)
def domAt (L : List At) (i : Int) : Int × Int := if schE L ≠ 0 ∨ i < 0 ∨ (L.length : Int) ≤ i then (0, -1) else domV (at' L i.toNat)
/-- Are they facts? -/
def factsB (L : List At) (f : List Int) : Bool := decide (schE L = 0 ∧ f.length = L.length ∧ ∀ i, i < L.length → (domV (at' L i)).1 ≤ f.getD i 0 ∧ f.getD i 0 ≤ (domV (at' L i)).2)
/-- The text of a value. -/
def valT (a : At) (n : Int) : List UInt8 := if a.k = 1 then a.ws.getD n.toNat [] else if a.k = 2 then itoa n else if n = 1 then [121, 101, 115] else [110, 111]
def oneT (a : At) (n : Int) : List UInt8 := a.nm ++ ([61] ++ valT a n)
/-- The text of the first k facts. -/
def sepT (k : Nat) : List UInt8 := if k = 0 then [] else [59, 32]
def fmtP (L : List At) (f : List Int) : Nat → List UInt8
  | 0 => []
  | k + 1 => fmtP L f k ++ sepT k ++ oneT (at' L k) (f.getD k 0)
def fmtF (L : List At) (f : List Int) : List UInt8 × Int := if schE L ≠ 0 then ([], schE L) else if factsB L f = false then ([], 16) else (fmtP L f L.length, 0)

theorem fromE_none (L : List At) : ∀ n i, (∀ j, i ≤ j → j < i + n → atE L j = 0) → fromE L n i = 0 := by
  intro n
  induction n with
  | zero => intro i _; rfl
  | succ n ih => intro i h; rw [fromE, if_neg (by rw [h i (Nat.le_refl _) (by omega)]; simp)]; exact ih _ (fun j h1 h2 => h j (by omega) (by omega))
theorem fromE_zero (L : List At) : ∀ n i, fromE L n i = 0 → ∀ j, i ≤ j → j < i + n → atE L j = 0 := by
  intro n
  induction n with
  | zero => intro i _ j h1 h2; omega
  | succ n ih =>
    intro i h j h1 h2
    rw [fromE] at h
    split at h
    · rename_i hh; exact absurd h hh
    · rename_i hh
      by_cases e : j = i
      · subst e; simpa using hh
      · exact ih _ h j (by omega) (by omega)
theorem schE_ok (L : List At) (h : schE L = 0) : 1 ≤ L.length ∧ L.length ≤ 6 ∧ ∀ i, i < L.length → atE L i = 0 := by
  unfold schE at h
  split at h
  · cases h
  · split at h
    · cases h
    · exact ⟨by omega, by omega, fun i hi => fromE_zero L _ 0 h i (Nat.zero_le _) (by omega)⟩
theorem atE_ok (L : List At) (i : Nat) (h : atE L i = 0) : nameB (at' L i).nm = true ∧ attE (at' L i) = 0 := by
  unfold atE at h
  split at h
  · cases h
  · rename_i h1
    split at h
    · cases h
    · exact ⟨by simpa using h1, h⟩
theorem attE_ok (a : At) (h : attE a = 0) : (a.k = 1 ∧ a.lo = 0 ∧ a.hi = 0 ∧ 1 ≤ a.ws.length ∧ a.ws.length ≤ 12 ∧ namesB a.ws = true ∧ distB a.ws = true) ∨ (a.k = 2 ∧ a.ws.length = 0 ∧ a.lo ≤ a.hi ∧ -1000000000 ≤ a.lo ∧ a.hi ≤ 1000000000) ∨ (a.k = 3 ∧ a.ws.length = 0 ∧ a.lo = 0 ∧ a.hi = 0) := by
  unfold attE at h
  split at h
  · rename_i hk
    left
    split at h
    · cases h
    · rename_i h1
      split at h
      · cases h
      · split at h
        · cases h
        · split at h
          · cases h
          · rename_i h4
            split at h
            · cases h
            · rename_i h5
              exact ⟨hk, by omega, by omega, by omega, by omega, by simpa using h4, by simpa using h5⟩
  · split at h
    · rename_i hk
      right; left
      split at h
      · cases h
      · split at h
        · cases h
        · rename_i h2
          have f1 : farB a.lo = false := by cases hf : farB a.lo with | true => exact absurd (.inr (.inl hf)) h2 | false => rfl
          have f2 : farB a.hi = false := by cases hf : farB a.hi with | true => exact absurd (.inr (.inr hf)) h2 | false => rfl
          unfold farB at f1 f2
          simp at f1 f2
          exact ⟨hk, by omega, by omega, by omega, by omega⟩
    · split at h
      · rename_i hk
        right; right
        split at h
        · cases h
        · rename_i h1
          exact ⟨hk, by omega, by omega, by omega⟩
      · cases h
/-- A domain has a value, and its bounds are small. -/
theorem domV_bd (a : At) (h : attE a = 0) : (domV a).1 ≤ (domV a).2 ∧ -1000000000 ≤ (domV a).1 ∧ (domV a).2 ≤ 1000000000 := by
  unfold domV
  rcases attE_ok a h with ⟨hk, h1, h2, h3, h4, _⟩ | ⟨hk, h1, h2, h3, h4⟩ | ⟨hk, h1, h2, h3⟩
  · rw [if_pos hk]; show (0 : Int) ≤ (a.ws.length : Int) - 1 ∧ _ ∧ _; refine ⟨by omega, by show (-1000000000 : Int) ≤ 0; decide, by show (a.ws.length : Int) - 1 ≤ _; omega⟩
  · rw [if_neg (by omega), if_pos hk]; exact ⟨h2, h3, h4⟩
  · rw [if_neg (by omega), if_neg (by omega)]; exact ⟨by decide, by decide, by decide⟩
theorem fromE_at (L : List At) (r : Int) (k : Nat) (hr : atE L k = r) (h0 : r ≠ 0) : ∀ n i, i ≤ k → k < i + n → (∀ j, i ≤ j → j < k → atE L j = 0) → fromE L n i = r := by
  intro n
  induction n with
  | zero => intro i h1 h2 _; omega
  | succ n ih =>
    intro i h1 h2 hz
    rw [fromE]
    by_cases e : i = k
    · subst e; rw [hr, if_pos h0]
    · rw [if_neg (by rw [hz i (Nat.le_refl _) (by omega)]; simp)]
      exact ih (i + 1) (by omega) (by omega) (fun j a b => hz j (by omega) b)
theorem schE_at (L : List At) (r : Int) (k : Nat) (h6 : L.length ≤ 6) (hk : k < L.length) (hz : ∀ j, j < k → atE L j = 0) (hr : atE L k = r) (h0 : r ≠ 0) : schE L = r := by
  unfold schE
  rw [if_neg (by omega), if_neg (by omega)]
  exact fromE_at L r k hr h0 _ 0 (Nat.zero_le _) (by omega) (fun j _ hj => hz j hj)
theorem schE_all (L : List At) (h6 : L.length ≤ 6) (h1 : 0 < L.length) (hz : ∀ j, j < L.length → atE L j = 0) : schE L = 0 := by
  unfold schE
  rw [if_neg (by omega), if_neg (by omega)]
  exact fromE_none L _ 0 (fun j _ hj => hz j (by omega))
theorem atE_name (L : List At) (i : Nat) (h : nameB (at' L i).nm = false) : atE L i = 6 := by unfold atE; rw [if_pos h]
theorem atE_dup (L : List At) (i : Nat) (h : nameB (at' L i).nm = true) (k : Nat) (hk : k < i) (e : (at' L k).nm = (at' L i).nm) : atE L i = 8 := by
  unfold atE
  rw [if_neg (by rw [h]; simp), if_pos]
  unfold dupB
  rw [decide_eq_false (fun hh => hh k hk e)]; rfl
theorem atE_att (L : List At) (i : Nat) (h : nameB (at' L i).nm = true) (hk : ∀ k, k < i → (at' L k).nm ≠ (at' L i).nm) : atE L i = attE (at' L i) := by
  unfold atE
  rw [if_neg (by rw [h]; simp), if_neg]
  unfold dupB
  rw [decide_eq_true hk]; simp
end Go.Proofs.YtjmipikahaoblaaGreatDoor.Sc
namespace Go.Proofs.YtjmipikahaoblaaGreatDoor.Ints
open Go.RowKit Go.WideShapes Go.ChangeShapes Go.Proofs.YtjmipikahaoblaaGreatDoor.Bas
set_option linter.unusedVariables false

theorem cells_ints : Tryz.prog.cellsOf 3 = 1 := by kernel_rfl
theorem opened_ints {H : Type} {enc : TypeId × Value → H} {W : World} {e : Option Addr} {len cap : Nat} {d : DataW H} {p : List MemPlace}
    (h0 : DataW.Trod enc Tryz.prog W 0 (fun _ => true) true 26 (.slice e len cap) d p) :
    ∃ l : List Int, IntsAt W (.slice e len cap) l ∧ l.length ≤ 9223372036854775807 ∧ (∀ x ∈ l, (Lit.int .i64 x).wf = true) := by
  obtain ⟨fuel, hf⟩ := h0
  rcases open_ints Tryz.underlying26 Tryz.underlying3 cells_ints hf with ⟨hcs, hx⟩ | ⟨a, len', cap', zs, hcs, _, hl, hm, hz, hx, hcell, hwz⟩
  · simp [Value.cells] at hcs
    obtain ⟨rfl, rfl, rfl⟩ := hcs
    exact ⟨[], ⟨none, 0, rfl, fun h => by simp at h⟩, by simp, by simp⟩
  · simp [Value.cells] at hcs
    obtain ⟨rfl, rfl, rfl⟩ := hcs
    simp only [if_true] at hz
    have hlen : (zs.take len).length = len := by rw [List.length_take]; omega
    refine ⟨zs.take len, ⟨some a, cap, by rw [hlen], fun h => ?_⟩, ?_, fun x hx => hwz x (List.mem_of_mem_take hx)⟩
    · rw [hlen] at h ⊢
      obtain ⟨b, off, rfl, hc⟩ := ints_at hcell (by omega)
      refine ⟨b, off, rfl, fun j hj => ?_⟩
      rw [hc j (by omega)]
      simp [List.getD_eq_getElem?_getD, hj]
    · rw [hlen]; unfold maxLen at hm; omega

/-- A slice's length is at most its capacity. -/
theorem opened_cap {H : Type} {enc : TypeId × Value → H} {W : World} {e : Option Addr} {len cap : Nat} {d : DataW H} {p : List MemPlace}
    (h0 : DataW.Trod enc Tryz.prog W 0 (fun _ => true) true 26 (.slice e len cap) d p) : len ≤ cap := by
  obtain ⟨fuel, hf⟩ := h0
  rcases open_ints Tryz.underlying26 Tryz.underlying3 cells_ints hf with ⟨hcs, hx⟩ | ⟨a, len', cap', zs, hcs, _, hl, hm, hz, hx, hcell, hwz⟩
  · simp [Value.cells] at hcs
    omega
  · simp [Value.cells] at hcs
    omega
section
variable {H : Type} {enc : TypeId × Value → H} {P : Program}
theorem post_of_below {f : Func} {s : ChangeSpec} {apart fresh handsOn again : Bool} {W W' : World} {args : Array Value} {v : Value} {ds gs : List (DataW H)} {before pa pv : List MemPlace}
    (hW : DataW.Whole enc P f.params.toList s.vars apart W args.toList ds gs before)
    (hres : ∀ (b : Nat) (sp : Nat → Bool) (hd : Bool), DataW.TrodAll enc P W' b sp hd f.resultTypes.toList (v.resultList f.resultTypes.size) (s.fn H (ds ++ gs)).results [])
    (hargs : ∀ sp : Nat → Bool, (∀ p ∈ before, sp p.block = true) → DataW.TrodAll enc P W' 0 sp true f.params.toList args.toList (s.fn H (ds ++ gs)).args pa)
    (hvars : ∀ sp : Nat → Bool, (∀ p ∈ before, sp p.block = true) → DataW.TrodVars enc P W' sp s.vars (s.fn H (ds ++ gs)).vars pv)
    (hps : before = pa ++ pv) (hb : Below W.heap.size W W')
    (hok : ∀ (j : Nat) (t : TypeId) (r : Value), f.resultTypes[j]? = some t → (v.resultList f.resultTypes.size)[j]? = some r → Value.okWide P W' .any 0 t r) :
    s.post enc P f apart fresh handsOn again W args v W' := by
  have hlt : ∀ p ∈ before, p.block < W.heap.size := fun p hp => hW.lt p hp
  have hold : ∀ p ∈ before, (fun b => decide (b < W.heap.size)) p.block = true := fun p hp => by simpa using hlt p hp
  refine ⟨ds, gs, before, [], pa, pv, hW, hres _ _ _, hargs _ hold, hvars _ hold, World.keptBut_mono (fun p hp => ⟨hp, ?_⟩) (hb.frame (· ∈ before)), fun _ => ?_⟩
  · rw [hps, List.mem_append] at hp
    exact Or.inr hp
  · obtain ⟨_, _, _, _, _, hz, hn⟩ := hW
    refine ⟨hok, _, _, ([] ++ pa) ++ pv, ⟨[] ++ pa, pv, trodAll_append (hargs _ (fun _ _ => rfl)) (hres _ _ _), hvars _ (fun _ _ => rfl), rfl, ?_, ?_⟩, ?_⟩
    · intro b off hp
      have hin : MemPlace.cell b off ∈ before := by rw [hps]; simpa using hp
      rw [hb.frozen (hlt _ hin)]
      exact hz b off hin
    · intro ha
      have := hn ha
      rw [hps] at this
      simpa using this
    · intro p hp _
      rw [hps]
      simpa using hp
end

end Go.Proofs.YtjmipikahaoblaaGreatDoor.Ints
namespace Go.Proofs.YtjmipikahaoblaaGreatDoor.Lx
open Go.RowKit Go.WideShapes Go.ChangeShapes Go.Proofs.YtjmipikahaoblaaGreatDoor.Bas Go.Proofs.YtjmipikahaoblaaGreatDoor.Ints
set_option linter.unusedVariables false

theorem cells_u8s : Tryz.prog.cellsOf 5 = 1 := by kernel_rfl
theorem opened_u8 {H : Type} {enc : TypeId × Value → H} {W : World} {e : Option Addr} {len cap : Nat} {d : DataW H} {p : List MemPlace}
    (h0 : DataW.Trod enc Tryz.prog W 0 (fun _ => true) true 91 (.slice e len cap) d p) :
    ∃ l : List Int, NumsAt .u8 W (.slice e len cap) l ∧ l.length ≤ 9223372036854775807 ∧ (∀ x ∈ l, (Lit.int .u8 x).wf = true) := by
  obtain ⟨fuel, hf⟩ := h0
  rcases open_ints Tryz.underlying91 Tryz.underlying5 cells_u8s hf with ⟨hcs, hx⟩ | ⟨a, len', cap', zs, hcs, _, hl, hm, hz, hx, hcell, hwz⟩
  · simp [Value.cells] at hcs
    obtain ⟨rfl, rfl, rfl⟩ := hcs
    exact ⟨[], ⟨none, 0, rfl, fun h => by simp at h⟩, by simp, by simp⟩
  · simp [Value.cells] at hcs
    obtain ⟨rfl, rfl, rfl⟩ := hcs
    simp only [if_true] at hz
    have hlen : (zs.take len).length = len := by rw [List.length_take]; omega
    refine ⟨zs.take len, ⟨some a, cap, by rw [hlen], fun h => ?_⟩, ?_, fun x hx => hwz x (List.mem_of_mem_take hx)⟩
    · rw [hlen] at h ⊢
      obtain ⟨b, off, rfl, hc⟩ := ints_at hcell (by omega)
      refine ⟨b, off, rfl, fun j hj => ?_⟩
      rw [hc j (by omega)]
      simp [List.getD_eq_getElem?_getD, hj]
    · rw [hlen]; unfold maxLen at hm; omega
theorem nums_below {k : IntKind} {w w' : World} {v : Value} {l : List Int} (h : NumsAt k w v l) (hb : Below w.heap.size w w') : NumsAt k w' v l := by
  obtain ⟨p, c, rfl, hp⟩ := h
  refine ⟨p, c, rfl, fun h0 => ?_⟩
  obtain ⟨b, off, rfl, hc⟩ := hp h0
  have hlt : b < w.heap.size := World.block_lt_of_cell? _ _ (hc 0 h0)
  exact ⟨b, off, rfl, fun j hj => by rw [hb.cell (p := ⟨b, off + j, none⟩) hlt]; exact hc j hj⟩
end Go.Proofs.YtjmipikahaoblaaGreatDoor.Lx
