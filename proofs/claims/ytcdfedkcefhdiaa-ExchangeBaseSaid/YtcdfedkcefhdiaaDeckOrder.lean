/- The deck: Order. -/
import Derived.Test.YtcdfedkcefhdiaaDeckStore
namespace Go.Proofs.Ytcdfedkcefhdiaa.Dk
open Go.RowKit Go.Lib Go.Proofs.Ytcdfedkcefhdiaa.Bas Go.Proofs.Ytcdfedkcefhdiaa.Spl
set_option linter.unusedVariables false

theorem o_set_perm (o : List Nat) (x k : Nat) (hx : x < o.length) : ((o ++ [o.getD x 0]).set x k).Perm (o ++ [k]) := by
  induction o generalizing x with
  | nil => simp at hx
  | cons y r ih =>
    cases x with
    | zero =>
      show (k :: (r ++ [y])).Perm (y :: (r ++ [k]))
      exact ((List.perm_append_singleton y r).cons k).trans ((List.Perm.swap y k r).trans ((List.perm_append_singleton k r).symm.cons y))
    | succ x => exact (ih x (by simpa using hx)).cons y
theorem o_step (o : List Nat) (k m x : Nat) (ho : o.Perm (List.range k)) (hx : x < k + 1) :
    ∃ o', o'.Perm (List.range (k + 1)) ∧ ((o ++ List.replicate (m + 1) 0).set k ((o ++ List.replicate (m + 1) 0).getD x 0)).set x k = o' ++ List.replicate m 0 := by
  have hl : o.length = k := by rw [ho.length_eq, List.length_range]
  have hg : ∀ y, (o ++ List.replicate (m + 1) 0).set k y = (o ++ [y]) ++ List.replicate m 0 := fun y => by
    rw [← hl, List.set_append_right _ _ (Nat.le_refl _), Nat.sub_self, List.replicate_succ, List.set_cons_zero, List.append_assoc]; rfl
  rw [hg, List.set_append_left _ _ (by simp; omega)]
  refine ⟨_, ?_, rfl⟩
  rw [List.range_succ]
  refine List.Perm.trans ?_ (ho.append_right [k])
  by_cases e : x = k
  · subst e
    rw [List.set_append_right _ _ (by omega), hl, Nat.sub_self]
    exact List.Perm.refl _
  · have hxo : x < o.length := by omega
    have : (o ++ List.replicate (m + 1) 0).getD x 0 = o.getD x 0 := by
      rw [List.getD_eq_getElem?_getD, List.getD_eq_getElem?_getD, List.getElem?_append_left hxo]
    rw [this]
    exact o_set_perm o x k hxo

theorem info_parts_i : ∃ i, Try.prog.info? 3 = some i ∧ i.zero = some (.int .i64 0) ∧ i.size = 1 ∧ i.bytes = 8 := by
  have h := info_int
  cases hh : Try.prog.info? 3 with
  | none => rw [hh] at h; simp at h
  | some i => rw [hh] at h; simp at h; exact ⟨i, rfl, h.1, h.2.1, h.2.2⟩
theorem o_zeros (n : Nat) : madeCells (Value.int .i64 0).cells (n * 1) = Array.replicate n (Value.int .i64 0) := by
  apply Array.ext
  · simp [madeCells]
  · intro i h1 h2
    simp [madeCells, Value.cells, Nat.mod_one]
/-- make of n ints, as one equation. -/
theorem o_make (n : Nat) (hn : n ≤ 1048576) (W : World) : (Instr.makeSlice 23 (.int .i64 (n : Int)) (.int .i64 (n : Int))).run Try.prog W = .ok (.slice (some ⟨W.heap.size, 0, none⟩) n n) (W.alloc (.cells (Array.replicate n (Value.int .i64 0)) 3)) := by
  obtain ⟨i, hi, hz0, hz1, hz2⟩ := info_parts_i
  have h := run_make (P := Try.prog) W 23 3 i (.int .i64 0) Try.underlying23 hi hz0 .i64 .i64 (n : Int) (n : Int) (by omega) (Int.le_refl _) (by rw [hz2]; omega) (by omega)
  rw [Int.toNat_natCast, hz1, o_zeros] at h
  exact h

/-- An order of the numbers below n. -/
def OrderOut (n B d : Nat) (v : Value) (l : List Int) (w : World) (e : Ending) (w' : World) : Prop :=
  ∃ u, ∃ o : List Nat, e = .returned u ∧ o.Perm (List.range n) ∧ Row 3 .i64 w.heap.size w' u (ofN o) ∧ Deck B w' d v l ∧ Kept d w w'

theorem o_row {B g n c : Nat} {w : World} {L : List Nat} (h : Row 3 .i64 B w (.slice (some ⟨g, 0, none⟩) n c) (ofN L)) : n = L.length ∧ ∀ j, j < n → B ≤ g ∧ g < w.heap.size ∧ w.cell? ⟨g, j, none⟩ = some (.int .i64 (L.getD j 0 : Nat)) ∧ w.frozen? ⟨g, j, none⟩ = false := by
  have hf := fun j => h.frozen j
  obtain ⟨p, c', h1, h2⟩ := h.shape
  simp only [Value.slice.injEq, ofN_length] at h1 h2
  refine ⟨h1.2.1, fun j hj => ?_⟩
  obtain ⟨g', h3, h4, h5, h6⟩ := h2 (by omega)
  rw [← h1.1] at h3; cases h3
  exact ⟨h4, h5, by rw [h6 j (by omega), ofN_getD]; rfl, hf j⟩
theorem o_set {B g n c : Nat} {w : World} {L : List Nat} (h : Row 3 .i64 B w (.slice (some ⟨g, 0, none⟩) n c) (ofN L)) (j z : Nat) : Row 3 .i64 B (w.setCell ⟨g, j, none⟩ (.int .i64 (z : Int))) (.slice (some ⟨g, 0, none⟩) n c) (ofN (L.set j z)) := by
  have := h.store j z
  rw [show (ofN L).set j (z : Int) = ofN (L.set j z) by simp [ofN, List.map_set]] at this
  exact this

set_option maxHeartbeats 2000000 in
theorem order_any (B d : Nat) (v : Value) (l : List Int) (w : World) (n : Nat) (hn2 : n ≤ 1048576) (h : Deck B w d v l) :
    Calls Try.prog 23 #[.pointer (some ⟨d, 0, none⟩), .int .i64 n] w (OrderOut n B d v l w) := by
  have hD := Lib.hid h
  have hdl := h.lt
  have hdB := h.ge
  clear h
  have hmk := o_make n hn2
  go_enter Try.func23, Try.ntmps23
  go_wp2_with fail
  have hrow := (Row.made (t := 3) (k := .i64) w n (by unfold maxLen; omega))
  rw [show List.replicate n (0 : Int) = ofN ([] ++ List.replicate n 0) by simp [ofN]] at hrow
  have hrow' := Lib.hid hrow
  have hD0 := Lib.hid (hD.out.below ((Below.refl w.heap.size w).alloc (Nat.le_refl _) (.cells (Array.replicate n (Value.int .i64 0)) 3)))
  have hK0 := Lib.hid ((Kept.refl d w).alloc (.cells (Array.replicate n (Value.int .i64 0)) 3))
  clear hrow hD hmk
  have hgd : w.heap.size ≠ d := by omega
  have hBg : B ≤ w.heap.size := by omega
  generalize hg0 : w.heap.size = g at hrow' hgd hBg
  have hg0' := Lib.hid hg0
  clear hg0
  go_loopw [6] (fun i wr => ∃ k : Nat, k ≤ n ∧ i = .int .i64 k ∧ (∃ o : List Nat, Hid (o.Perm (List.range k)) ∧ Hid (Row 3 .i64 g wr (.slice (some ⟨g, 0, none⟩) n n) (ofN (o ++ List.replicate (n - k) 0)))) ∧ Hid (Deck B wr d v l) ∧ Hid (Kept d w wr)) (fun i _ => n - (RowKit.intOf i).toNat)
  case atStart => exact ⟨0, Nat.zero_le _, rfl, ⟨[], Lib.hid (List.Perm.refl _), hrow'⟩, hD0, hK0⟩
  case round =>
    obtain ⟨k, hk, rfl, ⟨o, ho, hR⟩, hD, hK⟩ := hrel
    by_cases hlt : k < n
    · have hk1 : (k : Int) + 1 = ((k + 1 : Nat) : Int) := by omega
      have hk1' := Lib.hid hk1
      clear hk1
      go_wp2_with fail
      rw [hk1'.out]
      refine (next_any B d v l _ (k + 1) (by omega) (by omega) hD.out).mono ?_; rintro e w1 ⟨x, hx, rfl, hD1, hK1⟩
      have hR1 := hK1.row hR.out (by simp [Value.ownBlock]; omega)
      have hc := (o_row hR1).2
      obtain ⟨hgg, hgs, ck, fk⟩ := hc k hlt
      obtain ⟨-, -, cx, fx⟩ := hc x (by omega)
      obtain ⟨m, hm⟩ : ∃ m, n - k = m + 1 := ⟨n - k - 1, by omega⟩
      obtain ⟨o', ho', he⟩ := o_step o k m x ho.out hx
      obtain ⟨-, -, cx2, fx2⟩ := (o_row (o_set hR1 k ((o ++ List.replicate (n - k) 0).getD x 0))).2 x (by omega)
      have hst := o_set (o_set hR1 k ((o ++ List.replicate (n - k) 0).getD x 0)) x k
      rw [hm] at hst cx cx2 fx2 ck
      rw [he] at hst
      have hm2 := Lib.hid (show n - (k + 1) = m by omega)
      have hD2 := Lib.hid ((hD1.oth (b := g) (by omega) (by omega) k (.int .i64 ((o ++ List.replicate (m + 1) 0).getD x 0 : Nat))).oth (b := g) (by omega) (by omega) x (.int .i64 k))
      have hK2 := Lib.hid (((hK.out.trans hK1).setN (b := g) (by have := hg0'.out; omega) k (.int .i64 ((o ++ List.replicate (m + 1) 0).getD x 0 : Nat))).setN (b := g) (by have := hg0'.out; omega) x (.int .i64 k))
      have hst' := Lib.hid hst
      have ho2 := Lib.hid ho'
      have l1 : (k : Int) < (n : Int) := by omega
      have l2 : (x : Int) < (n : Int) := by omega
      clear hR1 hc he hst hm hD1 hK1 ho' hD hK hR
      generalize (o ++ List.replicate (m + 1) 0).getD x 0 = y at *
      generalize (o ++ List.replicate (m + 1) 0).getD k 0 = y2 at *
      generalize ((o ++ List.replicate (m + 1) 0).set k y).getD x 0 = y3 at *
      go_wp2_with fail
      go_roundw
      case rel => exact ⟨k + 1, by omega, by go_num, ⟨o', ho2, by rw [hm2.out]; exact hst'⟩, hD2, hK2⟩
      case measure => simp [RowKit.intOf]; omega
    · obtain rfl : k = n := by omega
      have hfin : OrderOut k B d v l w (.returned (.slice (some ⟨g, 0, none⟩) k k)) wr := ⟨_, o, rfl, ho.out, by have := hR.out; rw [Nat.sub_self, List.replicate_zero, List.append_nil] at this; rw [hg0'.out]; exact this, hD.out, hK.out⟩
      have hfin' := Lib.hid hfin
      clear hfin
      go_wp2_with fail
      go_ret
      exact hfin'.out
end Go.Proofs.Ytcdfedkcefhdiaa.Dk
