/- slices.Equal of two slices of ints; Check of package split; append of a whole row onto an empty one. -/
import Derived.Test.YtnjghcncibogeaaSplParts
namespace Go.Proofs.Ytnjghcncibogeaa.Spl
open Go.RowKit Go.Lib Go.Proofs.Ytnjghcncibogeaa.Bas Go.Proofs.Ytnjghcncibogeaa.Dk
set_option linter.unusedVariables false

theorem equal_any (va vb : Value) (la lb : List Int) (w : World) (ha : IntsAt w va la) (hb : IntsAt w vb lb) (hla : la.length ≤ 9223372036854775807) (hlb : lb.length ≤ 9223372036854775807) :
    Calls Try.prog 30 #[va, vb] w (BoolDr (decide (la = lb)) w) := by
  obtain ⟨p, c, rfl, hp⟩ := ha
  obtain ⟨q, d, rfl, hq⟩ := hb
  by_cases hne : la.length = lb.length
  · by_cases h0 : la.length = 0
    · rw [← hne, h0]
      have e : la = lb := by
        rw [List.length_eq_zero_iff.1 h0, List.length_eq_zero_iff.1 (show lb.length = 0 by rw [← hne]; exact h0)]
      refine (Try.slices_Equal_int_empty p q c 0 d w (by omega)).mono fun e' w' h => ?_
      rw [decide_eq_true e]
      exact ⟨by rw [h.1]; rfl, by rw [h.2]; exact Dr.refl _⟩
    · obtain ⟨b1, o1, rfl, hc1⟩ := hp (by omega)
      obtain ⟨b2, o2, rfl, hc2⟩ := hq (by omega)
      refine (Try.slices_Equal_int b1 o1 la.length c b2 o2 lb.length d la lb w (Nat.le_refl _) (Nat.le_refl _) hla hlb hc1 hc2).mono fun e' w' h => ?_
      obtain ⟨h1, n, h2⟩ := h
      refine ⟨?_, n, h2⟩
      rw [h1, List.take_of_length_le (Nat.le_refl _), List.take_of_length_le (Nat.le_refl _)]
      congr 2
      rw [Bool.eq_iff_iff]; simp
  · refine (Try.slices_Equal_int_lens p q la.length c lb.length d w hne).mono fun e' w' h => ?_
    rw [decide_eq_false fun e => hne (by rw [e])]
    exact ⟨h.1, by rw [h.2]; exact Dr.refl _⟩

set_option maxHeartbeats 1000000 in
theorem check_any (a : Int) (v : Value) (l : List Int) (vp : Value) (lp : List Int) (w : World) (h : IntsAt w v l) (hp : IntsAt w vp lp) (hl : l.length ≤ 9223372036854775807) (hlp : lp.length ≤ 9223372036854775807) (b1 : -9223372036854775808 ≤ a) (b2 : a ≤ 9223372036854775807)
    (r : Bool) (hr : r = decide ((splitV a l).2 = 0 ∧ (splitV a l).1 = lp)) :
    Calls Try.prog 18 #[.int .i64 a, v, vp] w (BoolBe r w) := by
  have c1 := split_any a v l w h hl b1 b2
  have hlen := parts_len a l
  obtain ⟨⟨P, E⟩, hPE⟩ : ∃ R, splitV a l = R := ⟨_, rfl⟩
  rw [hPE] at c1 hlen hr
  simp only at hlen hr
  have c1' := Lib.hid c1
  have hr' := Lib.hid hr
  have hp' := Lib.hid hp
  clear c1 hPE hr h hp
  by_cases hE : E = 0
  · subst hE
    have e1 : r = decide (P = lp) := by rw [hr'.out]; simp
    have e1' := Lib.hid e1
    clear e1
    go_enter Try.func18, Try.ntmps18
    go_wp2_with fail
    refine c1'.out.mono ?_; rintro e w1 ⟨u, rfl, hR, hB⟩
    simp only at hR
    have c2 := Lib.hid (equal_any u vp P lp w1 hR.ints (hp'.out.below hB) (by omega) hlp)
    have hB' := Lib.hid hB
    clear hR hB
    go_wp2_with fail
    refine c2.out.mono ?_; rintro e w2 ⟨rfl, nd, rfl⟩
    have hfin : BoolBe r w (.returned (.bool (decide (P = lp)))) (w1.drewN nd) := ⟨by rw [e1'.out], below_drewN hB'.out nd⟩
    rw [← e1'.out] at hfin ⊢
    have hfin' := Lib.hid hfin
    clear hfin
    go_wp2_with fail
    go_ret
    exact hfin'.out
  · have e1 : r = false := by rw [hr'.out]; simp [hE]
    subst e1
    have hEb : (E == 0) = false := by simpa using hE
    go_enter Try.func18, Try.ntmps18
    go_wp2_with fail
    refine c1'.out.mono ?_; rintro e w1 ⟨u, rfl, hR, hB⟩
    have hfin : BoolBe false w (.returned (.bool false)) w1 := ⟨rfl, hB⟩
    have hfin' := Lib.hid hfin
    clear hR hB hfin
    go_wp2_with fail
    go_ret
    exact hfin'.out

/-- append of a row of ints, which lies at its block's head, onto a row of the call's own. -/
theorem wpList_append_row {P : Program} {w : World} {ops : Array Oper} {rest : List Oper} {o : Oper} {a : Act} {Q : Exit → Act → World → Prop} (hgd : o.guard = none) (s x : Operand) (t : TypeId)
    (ho : o.op = .call { callee := .builtin .append, args := #[s, x], argTypes := #[t, t] })
    (B : Nat) (e : TypeId) (kd : IntKind) (i : TypeInfo) (bytes : Nat) (ht : P.underlying t = some (.slice e)) (hi : P.info? e = some i) (hz : i.zero = some (.int kd 0))
    (hsize : i.size = 1) (hby : i.bytes = bytes) (hby8 : bytes ≤ 16) (v : Value) (L : List Int) (hs : a.eval s = v) (hrow : Row e kd B w v L) (g c : Nat) (L2 : List Int) (hx : a.eval x = .slice (some ⟨g, 0, none⟩) L2.length c)
    (hc : ∀ j, j < L2.length → w.cell? ⟨g, j, none⟩ = some (.int kd (L2.getD j 0))) (hlen : L.length + L2.length ≤ 1099511627776) (hB : B ≤ w.heap.size)
    (h : ∀ v' w', Row e kd B w' v' (L ++ L2) → w.grownBy w' v.ownBlock → wpList P ops Q rest (a.put o.dst v') w') : wpList P ops Q (o :: rest) a w := by
  have hbd : (L.length + L2.length) * bytes ≤ 140737488355328 := by
    have := Nat.mul_le_mul hlen hby8
    omega
  refine wpList_append_own _ hgd s x t ho B e i (.int kd 0) 1 bytes ht hi hz hsize hby rfl (by decide) v L.length (L.map (Value.int kd)) hs hrow ⟨g, 0, none⟩ L2.length c (L2.map (Value.int kd)) hx (by simp) ?_ ?_ (by unfold maxLen; omega) hbd hB ?_
  · intro j u hu
    rw [List.getElem?_map] at hu
    obtain ⟨y, hy, rfl⟩ := Option.map_eq_some_iff.1 hu
    have hj : j < L2.length := (List.getElem?_eq_some_iff.1 hy).1
    have := hc j hj
    rw [List.getD_eq_getElem?_getD, hy] at this
    rw [Go.WideShapes.add_plain, Nat.zero_add]; exact this
  · intro u hu
    obtain ⟨y, _, rfl⟩ := List.mem_map.1 hu
    rfl
  · intro v' w' hown hg _
    refine h v' w' ?_ hg
    unfold Row
    rw [List.length_append, List.map_append]
    exact hown
theorem wpList_met {P : Program} {w : World} {ops : Array Oper} {rest : List Oper} {o : Oper} {a : Act} {Q : Exit → Act → World → Prop} (hw : Region.wanted o (yielded ops a.tmps) = true)
    (h : ∀ K : Act → World → Prop, (∀ a w, wpList P ops Q rest a w → K a w) → o.wp P a w K Q) : wpList P ops Q (o :: rest) a w :=
  wpList_step fun K hK => by rw [if_pos hw]; exact h K hK
/-- append of a row of ints, which lies at its block's head, onto a row of the call's own. -/
theorem wpList_append_row_g {P : Program} {w : World} {ops : Array Oper} {rest : List Oper} {o : Oper} {a : Act} {Q : Exit → Act → World → Prop} (hgd : Region.wanted o (yielded ops a.tmps) = true) (s x : Operand) (t : TypeId)
    (ho : o.op = .call { callee := .builtin .append, args := #[s, x], argTypes := #[t, t] })
    (B : Nat) (e : TypeId) (kd : IntKind) (i : TypeInfo) (bytes : Nat) (ht : P.underlying t = some (.slice e)) (hi : P.info? e = some i) (hz : i.zero = some (.int kd 0))
    (hsize : i.size = 1) (hby : i.bytes = bytes) (hby8 : bytes ≤ 16) (v : Value) (L : List Int) (hs : a.eval s = v) (hrow : Row e kd B w v L) (g c : Nat) (L2 : List Int) (hx : a.eval x = .slice (some ⟨g, 0, none⟩) L2.length c)
    (hc : ∀ j, j < L2.length → w.cell? ⟨g, j, none⟩ = some (.int kd (L2.getD j 0))) (hlen : L.length + L2.length ≤ 1099511627776) (hB : B ≤ w.heap.size)
    (h : ∀ v' w', Row e kd B w' v' (L ++ L2) → w.grownBy w' v.ownBlock → wpList P ops Q rest (a.put o.dst v') w') : wpList P ops Q (o :: rest) a w := by
  have hbd : (L.length + L2.length) * bytes ≤ 140737488355328 := by
    have := Nat.mul_le_mul hlen hby8
    omega
  refine wpList_met hgd fun K hK => wp_append_own w s x t ho B e i (.int kd 0) 1 bytes ht hi hz hsize hby rfl (by decide) v L.length (L.map (Value.int kd)) hs hrow ⟨g, 0, none⟩ L2.length c (L2.map (Value.int kd)) hx (by simp) ?_ ?_ (by unfold maxLen; omega) hbd hB ?_
  · intro j u hu
    rw [List.getElem?_map] at hu
    obtain ⟨y, hy, rfl⟩ := Option.map_eq_some_iff.1 hu
    have hj : j < L2.length := (List.getElem?_eq_some_iff.1 hy).1
    have := hc j hj
    rw [List.getD_eq_getElem?_getD, hy] at this
    rw [Go.WideShapes.add_plain, Nat.zero_add]; exact this
  · intro u hu
    obtain ⟨y, _, rfl⟩ := List.mem_map.1 hu
    rfl
  · intro v' w' hown hg _
    refine hK _ _ (h v' w' ?_ hg)
    unfold Row
    rw [List.length_append, List.map_append]
    exact hown
/-- append of one number that was just laid into a block of its own. -/
theorem wpList_append_one_g {P : Program} {w : World} {ops : Array Oper} {rest : List Oper} {o : Oper} {a : Act} {Q : Exit → Act → World → Prop} (hgd : Region.wanted o (yielded ops a.tmps) = true) (s x : Operand) (t : TypeId)
    (ho : o.op = .call { callee := .builtin .append, args := #[s, x], argTypes := #[t, t] })
    (B : Nat) (e : TypeId) (kd : IntKind) (i : TypeInfo) (bytes : Nat) (ht : P.underlying t = some (.slice e)) (hi : P.info? e = some i) (hz : i.zero = some (.int kd 0))
    (hsize : i.size = 1) (hby : i.bytes = bytes) (hby8 : bytes ≤ 16) (v : Value) (L : List Int) (hs : a.eval s = v) (hrow : Row e kd B w v L) (y : Int) (hx : a.eval x = .slice (some ⟨w.heap.size, 0, none⟩) 1 1)
    (hlen : L.length ≤ 1099511627776) (hB : B ≤ w.heap.size)
    (h : ∀ v' w', Row e kd B w' v' (L ++ [y]) → w.grownBy w' v.ownBlock → wpList P ops Q rest (a.put o.dst v') w') : wpList P ops Q (o :: rest) a (w.alloc (.cells #[.int kd y] e)) := by
  have hbd : (L.length + 1) * bytes ≤ 140737488355328 := by
    have := Nat.mul_le_mul (show L.length + 1 ≤ 1099511627777 by omega) hby8
    omega
  refine wpList_met hgd fun K hK => wp_append_own _ s x t ho B e i (.int kd 0) 1 bytes ht hi hz hsize hby rfl (by decide) v L.length (L.map (Value.int kd)) hs (World.ownsRow.alloc hrow _) ⟨w.heap.size, 0, none⟩ 1 1 [.int kd y] hx rfl ?_ ?_ (by unfold maxLen; omega) hbd (by simp; omega) ?_
  · intro j u hu
    cases j with
    | zero => simp at hu; subst hu; simp [Addr.add]
    | succ j => simp at hu
  · intro u hu
    simp at hu; subst hu; rfl
  · intro v' w' hown hg _
    refine hK _ _ (h v' w' ?_ (grownBy_alloc hg))
    unfold Row
    rw [List.length_append, List.map_append]
    exact hown
theorem row_empty (w : World) (B : Nat) (hB : B ≤ w.heap.size) : Row 3 .i64 B (w.alloc (.cells #[] 3)) (.slice (some ⟨w.heap.size, 0, none⟩) 0 0) [] := by
  have := World.ownsRow_made (base := B) (e := 3) (size := 1) w #[] 0 hB (by unfold maxLen; omega) (by simp)
  unfold Row; simpa using this
end Go.Proofs.Ytnjghcncibogeaa.Spl
