/- byRest of package split: the indices in the order of the remainders. -/
import Derived.Test.YtnjghcncibogeaaSplCmp
import Derived.Test.YtnjghcncibogeaaSort
import Derived.Lib.OwnBridge
import Derived.Lib.AppendIntMem
import Derived.Shelf.SlSortFunc.HeapSort
namespace Go.Proofs.Ytnjghcncibogeaa.Spl
open Go.RowKit Go.Lib Go.Proofs.Ytnjghcncibogeaa.Bas Go.Sort
set_option linter.unusedVariables false

theorem cf_bet (r : Nat → Nat) (x y : Nat) : (cf r x y < 0) ↔ bet r x y = true := by
  rw [bet_iff]
  unfold cf orI cmpI
  by_cases h1 : r y < r x
  · simp [h1]
  · by_cases h2 : r x < r y
    · have : ¬ r x = r y := by omega
      simp [h1, h2, this]
    · have : r x = r y := by omega
      simp only [this, Nat.lt_irrefl, Int.lt_irrefl, if_false, if_true, false_or, true_and]
      by_cases h3 : x < y
      · simp [h3]
      · by_cases h4 : y < x <;> simp [h3, h4]
/-- The closure's answer at indices below n. -/
def cfF (r : Nat → Nat) (n : Nat) (x y : Fin n) : Int := cf r x.1 y.1
theorem ltF (r : Nat → Nat) (n : Nat) : Go.Sort.SWO (α := Fin n) (ltOf (cfF r n)) := by
  have h : ∀ x y : Fin n, ltOf (cfF r n) x y = bet r x.1 y.1 := fun x y => by
    unfold ltOf cfF
    rw [Bool.eq_iff_iff, decide_eq_true_iff, cf_bet]
  refine ⟨fun x => ?_, fun x y z h1 h2 => ?_, fun x y z h1 h2 => ?_⟩
  · rw [h, Bool.eq_false_iff]; intro e; rw [bet_iff] at e; omega
  · rw [h] at *; rw [bet_iff] at *; omega
  · rw [h, Bool.eq_false_iff] at *
    intro e
    have g1 : ¬ (r y.1 < r x.1 ∨ (r x.1 = r y.1 ∧ x.1 < y.1)) := fun q => h1 ((bet_iff r x.1 y.1).2 q)
    have g2 : ¬ (r z.1 < r y.1 ∨ (r y.1 = r z.1 ∧ y.1 < z.1)) := fun q => h2 ((bet_iff r y.1 z.1).2 q)
    have g3 := (bet_iff r x.1 z.1).1 e
    omega

theorem below_grow {B : Nat} {a w : World} (h : Below B a w) (hB : B ≤ w.heap.size) (os : Array Obj) : Below B a (grow w os) :=
  ⟨h.os, h.tape, h.output, by have := h.size; simp [grow]; omega, fun k hk => by
    rw [← h.block k hk]
    simp [grow, Array.getElem?_append, show k < w.heap.size by omega]⟩

/-- What the sort leaves. -/
def SortOut (r : Nat → Nat) (n B g cap : Nat) (w : World) (e : Ending) (w' : World) : Prop :=
  e = .returned (.tuple #[]) ∧ ∃ o : List Nat, o.Perm (List.range n) ∧ o.Pairwise (fun x y => bet r x y = true) ∧ Row 3 .i64 B w' (.slice (some ⟨g, 0, none⟩) n cap) (ofN o) ∧ ∀ C, C ≤ g → C ≤ w.heap.size → Below C w w'

theorem fin_row (n : Nat) : ((List.finRange n).map fun i : Fin n => Value.int .i64 (i.1 : Int)) = (ofN (List.range n)).map (Value.int .i64) := by
  apply List.ext_getElem
  · simp [ofN]
  · intro k h1 h2
    simp [ofN]

theorem sort_row (B box rb n c g cap : Nat) (r : Nat → Nat) (w : World) (hn : 0 < n) (h64 : n ≤ 64) (hrow : Row 3 .i64 B w (.slice (some ⟨g, 0, none⟩) n cap) (ofN (List.range n)))
    (hbox : w.cell? ⟨box, 0, none⟩ = some (.slice (some ⟨rb, 0, none⟩) n c)) (hr : ∀ j, j < n → w.cell? ⟨rb, j, none⟩ = some (.int .u64 (r j))) (hne1 : box ≠ g) (hne2 : rb ≠ g) :
    Calls Try.prog 37 #[.slice (some ⟨g, 0, none⟩) n cap, .func (.func 38) #[] #[.pointer (some ⟨box, 0, none⟩)]] w (SortOut r n B g cap w) := by
  haveI : Inhabited (Fin n) := ⟨⟨0, hn⟩⟩
  let enc : Fin n → Value := fun i => .int .i64 (i.1 : Int)
  have hln : (ofN (List.range n)).length = n := by simp [ofN]
  have hrow' : w.ownsRow B 3 1 (.slice (some ⟨g, 0, none⟩) n cap) n ((List.finRange n).map enc) := by
    have h := hrow
    unfold Row at h
    rw [hln, ← fin_row] at h
    exact h
  obtain ⟨g', cap', e1, _, hlt, _, _, _, hH⟩ := Lib.holds_of_ownsRow hrow' (by intro e; cases e)
  cases e1
  have hd : (List.finRange n).toArray.size = n := by simp
  have lb : box < w.heap.size := World.block_lt_of_cell? _ _ hbox
  have lr : rb < w.heap.size := World.block_lt_of_cell? _ _ (hr 0 hn)
  have eg : ∀ args w, (callFunc 38 args).run Try.prog w = .ok (.enter 38 args) w := enters_of Try.func38 (by kernel_rfl) rfl
  have hcmp : CmpLays1 Try.prog 38 #[.pointer (some ⟨box, 0, none⟩)] enc (cfF r n) g 0 (List.finRange n).toArray.size w := by
    intro m os dk hs x y
    exact closure_any box rb n c r x.1 y.1 x.2 y.2 h64 (sortWorld enc w g 0 m dk os)
      (by rw [cell?_sortWorld_other _ _ _ _ _ _ _ _ hne1 lb]; exact hbox)
      (by rw [cell?_sortWorld_other _ _ _ _ _ _ _ _ hne2 lr]; exact hr _ x.2)
      (by rw [cell?_sortWorld_other _ _ _ _ _ _ _ _ hne2 lr]; exact hr _ y.2)
  have hcon := Any.slices_SortFunc Try.Sort enc (fun _ => rfl) (cfF r n) (ltF r n) 38 #[.pointer (some ⟨box, 0, none⟩)] g 0 cap (List.finRange n).toArray w eg hcmp hH hlt (by rw [hd]; omega)
  rw [hd] at hcon
  refine hcon.mono fun e w' ⟨he, d', m, os, hp, hs, hw⟩ => ?_
  obtain ⟨p1, _, p3⟩ := hp
  have hsz : d'.size = n := by rw [p1, hd]
  have e2 : d'.extract 0 n = d' := by
    have := Array.extract_size (xs := d')
    rw [hsz] at this; exact this
  have e3 : (List.finRange n).toArray.extract 0 n = (List.finRange n).toArray := by
    have := Array.extract_size (xs := (List.finRange n).toArray)
    rw [hd] at this; exact this
  rw [e2, e3] at p3
  have hperm : (d'.toList.map fun i : Fin n => i.1).Perm (List.range n) := by
    have h1 := p3.map fun i : Fin n => i.1
    have h2 : ((List.finRange n).toArray.toList.map fun i : Fin n => i.1) = List.range n := by
      apply List.ext_getElem
      · simp
      · intro k a b; simp
    rw [h2] at h1; exact h1
  have hnd : (d'.toList.map fun i : Fin n => i.1).Nodup := hperm.nodup_iff.2 List.nodup_range
  refine ⟨he, d'.toList.map (fun i : Fin n => i.1), hperm, ?_, ?_, ?_⟩
  · rw [List.pairwise_iff_getElem]
    intro i j hi hj hij
    have hi' : i < d'.size := by simpa using hi
    have hj' : j < d'.size := by simpa using hj
    have h1 := hs i j (Nat.zero_le _) hij (by omega)
    have h2 : ¬ bet r (d'[j]!).1 (d'[i]!).1 = true := by
      rw [← cf_bet]
      unfold ltOf cfF at h1
      exact of_decide_eq_false h1
    rw [getElem!_pos d' i hi', getElem!_pos d' j hj'] at h2
    have h3 : (d'[i]).1 ≠ (d'[j]).1 := by
      have := (List.pairwise_iff_getElem.1 hnd) i j hi hj hij
      simpa using this
    simp only [List.getElem_map, Array.getElem_toList]
    rcases bet_tot r _ _ h3 with h4 | h4
    · exact h4
    · exact absurd h4 h2
  · have h1 := Lib.ownsRow_putRow (q := m) (k := n) (ys := d'.toList) hrow' (by simpa using hsz) (Nat.le_refl _)
    have h2 := ownsRow_grow h1 0 os
    rw [hw]
    unfold Row sortWorld
    have h3 : (ofN (d'.toList.map fun i : Fin n => i.1)).length = n := by simp [ofN, hsz]
    have h4 : (ofN (d'.toList.map fun i : Fin n => i.1)).map (Value.int .i64) = (d'.toList.take n).map enc := by
      rw [List.take_of_length_le (by simp [hsz])]
      simp [ofN, enc]
    rw [h3, h4]
    exact h2
  · intro C hC hC2
    rw [hw]
    have h1 := Lib.below_putRow (enc := enc) (q := m) (d := d') (Below.refl C w) hC
    exact below_grow h1 (by simpa [putRow, mapBlock, Sort.ahead] using hC2) os
/-- The row of the indices, filled up to k. -/
def idL (n k : Nat) : List Int := (List.range n).map fun i => if i < k then (i : Int) else 0
theorem idL_length (n k : Nat) : (idL n k).length = n := by simp [idL]
theorem idL_zero (n : Nat) : idL n 0 = List.replicate n 0 := by
  apply List.ext_getElem
  · simp [idL]
  · intro i h1 h2; simp [idL]
theorem idL_full (n : Nat) : idL n n = ofN (List.range n) := by
  apply List.ext_getElem
  · simp [idL, ofN]
  · intro i h1 h2
    have : i < n := by simpa [idL] using h1
    simp [idL, ofN, this]
theorem idL_set (n k : Nat) : (idL n k).set k (k : Int) = idL n (k + 1) := by
  apply List.ext_getElem
  · simp [idL]
  · intro i h1 h2
    rw [List.getElem_set]
    by_cases h : k = i
    · subst h; simp [idL]
    · rw [if_neg h]
      have : (i < k + 1) ↔ i < k := by omega
      simp [idL, this]

def RestOut (r : Nat → Nat) (n : Nat) (w : World) (e : Ending) (w' : World) : Prop :=
  ∃ g, e = .returned (.slice (some ⟨g, 0, none⟩) n n) ∧ ∃ o : List Nat, o.Perm (List.range n) ∧ o.Pairwise (fun x y => bet r x y = true) ∧ Row 3 .i64 w.heap.size w' (.slice (some ⟨g, 0, none⟩) n n) (ofN o) ∧ Below w.heap.size w w'

set_option maxHeartbeats 1000000 in
theorem byRest_any (rb n c : Nat) (r : Nat → Nat) (w : World) (hn : 0 < n) (h64 : n ≤ 64) (hr : ∀ j, j < n → w.cell? ⟨rb, j, none⟩ = some (.int .u64 (r j))) :
    Calls Try.prog 35 #[.slice (some ⟨rb, 0, none⟩) n c] w (RestOut r n w) := by
  obtain ⟨i0, hi, hz0, hz1, hz2⟩ := info_parts info_int
  have lr : rb < w.heap.size := World.block_lt_of_cell? _ _ (hr 0 hn)
  have hr' := Lib.hid hr
  clear hr
  obtain ⟨H, hH⟩ : ∃ H, w.heap.size = H := ⟨_, rfl⟩
  have hH' := Lib.hid hH
  go_enter Try.func35, Try.ntmps35
  rw [hH] at lr
  clear hH
  go_wp2_with (at_make; refine wpList_make_full _ rfl _ _ 22 rfl w.heap.size 3 i0 (.int .i64 0) 1 Try.underlying22 hi hz0 hz1 .i64 .i64 (n : Int) (n : Int) n rfl rfl rfl rfl (by rw [hz2]; omega) (by unfold maxLen; omega) (by simp) ?_; intro w1 hown hgrow)
  have hrow : Row 3 .i64 w.heap.size w1 (.slice (some ⟨w.heap.size + 1, 0, none⟩) n n) (idL n 0) := by
    have := row_zeros hown
    rw [← idL_zero] at this; simpa using this
  have hb1 : Below w.heap.size w w1 := below_grownBy ((Below.refl _ _).alloc (Nat.le_refl _) _) hgrow (by simp)
  have hbx : w1.cell? ⟨w.heap.size, 0, none⟩ = some (.slice (some ⟨rb, 0, none⟩) n c) := hgrow.cell (by simp) (by simp)
  have hrow' := Lib.hid hrow
  have hb1' := Lib.hid hb1
  have hbx' := Lib.hid hbx
  clear hown hgrow hrow hb1 hbx
  go_wp2_with fail
  go_loopw [10] (fun i wr => ∃ k : Nat, k ≤ n ∧ i = .int .i64 k ∧ Hid (Row 3 .i64 w.heap.size wr (.slice (some ⟨w.heap.size + 1, 0, none⟩) n n) (idL n k)) ∧ Hid (Below w.heap.size w wr) ∧ Hid (wr.cell? ⟨w.heap.size, 0, none⟩ = some (.slice (some ⟨rb, 0, none⟩) n c))) (fun i _ => n - (RowKit.intOf i).toNat)
  case atStart => exact ⟨0, Nat.zero_le _, rfl, hrow', hb1', hbx'⟩
  case round =>
    obtain ⟨k, hk, rfl, hR, hB, hX⟩ := hrel
    by_cases hlt : k < n
    · have hck : ∃ z, wr.cell? ⟨w.heap.size + 1, k, none⟩ = some z := by
        obtain ⟨q2, c2, h1, h2⟩ := hR.out.shape
        simp only [Value.slice.injEq, idL_length] at h1 h2
        obtain ⟨g', h3, _, _, hcell⟩ := h2 (by omega)
        rw [← h1.1] at h3; cases h3
        exact ⟨_, hcell k hlt⟩
      obtain ⟨z, hck⟩ := hck
      have hfk := hR.out.frozen k
      have hst := Lib.hid (hR.out.store k (k : Int))
      go_wp2_with fail
      go_roundw
      case rel => exact ⟨k + 1, by omega, by go_num, Lib.hid (by rw [← idL_set]; exact hst.out), Lib.hid (hB.out.setCell (by simp) _), Lib.hid (by rw [World.cell?_setCell_other _ _ _ _ (by simp)]; exact hX.out)⟩
      case measure => simp [RowKit.intOf]; omega
    · obtain rfl : k = n := by omega
      have hrest : ∀ j, j < k → wr.cell? ⟨rb, j, none⟩ = some (.int .u64 (r j)) := fun j hj => by
        rw [hB.out.cell (p := ⟨rb, j, none⟩) (by rw [hH'.out]; exact lr)]; exact hr'.out j hj
      have hR2 := hR.out
      rw [idL_full] at hR2
      have hlt2 : w.heap.size + 1 < wr.heap.size := by
        obtain ⟨q2, c2, h1, h2⟩ := hR.out.shape
        simp only [Value.slice.injEq, idL_length] at h1 h2
        obtain ⟨g', h3, _, h4, _⟩ := h2 (by omega)
        rw [← h1.1] at h3; cases h3
        exact h4
      have hs := Lib.hid (sort_row w.heap.size w.heap.size rb k c (w.heap.size + 1) k r wr hn h64 hR2 hX.out hrest (by omega) (by rw [hH'.out]; omega))
      have hB2 := Lib.hid (fun w' (h : Below w.heap.size wr w') => hB.out.trans h)
      clear hrest hR2
      go_wp2_with fail
      refine hs.out.mono ?_; rintro e w' ⟨rfl, o, ho1, ho2, ho3, ho4⟩
      have hfin : RestOut r k w (.returned (.slice (some ⟨w.heap.size + 1, 0, none⟩) k k)) w' := ⟨_, rfl, o, ho1, ho2, ho3, hB2.out _ (ho4 _ (by omega) (by omega))⟩
      have hfin' := Lib.hid hfin
      clear hfin ho1 ho2 ho3 ho4
      go_wp2_with fail
      go_ret
      exact hfin'.out
end Go.Proofs.Ytnjghcncibogeaa.Spl
