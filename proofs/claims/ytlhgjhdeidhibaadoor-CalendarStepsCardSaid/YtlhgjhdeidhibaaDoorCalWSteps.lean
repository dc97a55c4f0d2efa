/- CalendarSteps' walk. (Written by gen_steps.py.) -/
import Derived.Test.YtlhgjhdeidhibaaDoorCalLaw0
namespace Go.Proofs.YtlhgjhdeidhibaaDoor.Cal
open Go.RowKit Go.Lib Go.Proofs.YtlhgjhdeidhibaaDoor.Bas
set_option linter.unusedVariables false

theorem set1 {w : World} {b : Nat} {y m d : Int} (h : TriAt w b y m d) (d' : Int) : TriAt (w.setCell ⟨b, 2, none⟩ (.int .i64 d')) b y m d' := by
  obtain ⟨h0, h1, h2, h3, h4, h5, h6⟩ := h
  refine ⟨by simpa using h0, ?_, ?_, ?_, ?_, ?_, ?_⟩
  · rw [World.cell?_setCell_other _ _ _ _ (by simp)]; exact h1
  · rw [World.cell?_setCell_other _ _ _ _ (by simp)]; exact h2
  · exact World.cell?_setCell_same _ _ _ h3
  · rw [World.frozen?_setCell]; exact h4
  · rw [World.frozen?_setCell]; exact h5
  · rw [World.frozen?_setCell]; exact h6

set_option maxHeartbeats 4000000 in
theorem steps_a (r2 r3 n a b v y m d dd k x p q z : Int) (w : World) (hT : Hid (Tab w)) (d1 : 1 ≤ d) (d2 : d ≤ 31) (hz : Hid ((if 28 < d then 28 else d) = dd)) (a1 : -128 ≤ a) (a2 : a ≤ 127) (b1 : -128 ≤ b) (b2 : b ≤ 127) 
    (c0 : Hid (∀ w, Calls Tryd.prog 15 #[.int .i64 n] w fun e w' => e = .returned (.int .i64 v) ∧ w = w'))
    (c1 : Hid (∀ w, Calls Tryd.prog 14 #[.int .i64 v] w (CivOut y m d k 0 w))) (c2 : Hid (∀ w, Calls Tryd.prog 18 #[.agg #[.int .i64 y, .int .i64 m, .int .i64 dd], .int .i64 k] w (NumOut x 0 w)))
    (c3 : Hid (∀ w, Tab w → Calls Tryd.prog 24 #[.int .i64 x, .int .i64 a] w (NumOut p 1 w))) (c4 : Hid (∀ w, Tab w → Calls Tryd.prog 24 #[.int .i64 p, .int .i64 b] w (NumOut q r2 w)))
    (c5 : Hid (∀ w, Tab w → Calls Tryd.prog 24 #[.int .i64 x, .int .i64 (a + b)] w (NumOut z r3 w))) :
    Calls Tryd.prog 9 #[.int .i64 n, .int .i8 a, .int .i8 b] w (BoolBe true w) := by
  have c6 := Lib.hid awake_any
  go_enter Tryd.func9, Tryd.ntmps9
  go_wp2_with fail
  refine (c0.out _).mono ?_; rintro e w' ⟨rfl, rfl⟩
  go_wp2_with fail
  refine (c1.out _).mono ?_; rintro e W1 ⟨rfl, hB⟩
  have b1' := Lib.hid hB
  have hge := Lib.hid hB.size
  clear hB
  go_upto_region 2 with (fail)
  have B2 := Lib.hid (trans_at b1'.out (alloc1 W1 (.cells #[.int .i64 y, .int .i64 m, .int .i64 d] 23)))
  have D2 := Lib.hid (TriAt.new W1 y m d)
  clear b1'
  generalize hp : W1.heap.size = p1 at D2 hge ⊢
  generalize W1.alloc (.cells #[.int .i64 y, .int .i64 m, .int .i64 d] 23) = W2 at B2 D2 ⊢
  clear hp
  obtain ⟨-, k0, k1, k2, k3, k4, k5⟩ := D2.out
  have D3 := Lib.hid (set1 D2.out dd)
  have B3 := Lib.hid (B2.out.setCell (p := ⟨p1, 2, none⟩) hge.out (.int .i64 dd))
  clear B2 D2
  go_upto_region 3 with (fail)
  rw [hz.out]
  clear k0 k1 k2 k3 k4 k5
  generalize W2.setCell ⟨p1, 2, none⟩ (.int .i64 dd) = W3 at D3 B3 ⊢
  obtain ⟨-, k0, k1, k2, -⟩ := D3.out
  go_wp2_with fail
  refine (c2.out _).mono ?_; rintro e W4 ⟨rfl, hB⟩
  have B4 := Lib.hid (trans_at B3.out hB)
  clear hB B3 D3 k0 k1 k2
  go_wp2_with fail
  refine (c3.out _ (hT.out.keep B4.out)).mono ?_; rintro e W5 ⟨rfl, hB⟩
  have B5 := Lib.hid (trans_at B4.out hB)
  clear hB B4
  go_wp2_with fail
  refine (c4.out _ (hT.out.keep B5.out)).mono ?_; rintro e W6 ⟨rfl, hB⟩
  have B6 := Lib.hid (trans_at B5.out hB)
  clear hB B5
  go_wp2_with fail
  refine (c5.out _ (hT.out.keep B6.out)).mono ?_; rintro e W7 ⟨rfl, hB⟩
  have B7 := Lib.hid (trans_at B6.out hB)
  clear hB B6
  go_wp2_with fail
  refine (c6.out _ (hT.out.keep B7.out)).mono ?_; rintro e W8 ⟨rfl, hB⟩
  have B8 := Lib.hid (trans_at B7.out hB)
  clear hB B7
  go_wp2_with fail
  go_ret
  exact ⟨rfl, B8.out⟩
set_option maxHeartbeats 4000000 in
theorem steps_b (r3 n a b v y m d dd k x p q z : Int) (w : World) (hT : Hid (Tab w)) (d1 : 1 ≤ d) (d2 : d ≤ 31) (hz : Hid ((if 28 < d then 28 else d) = dd)) (a1 : -128 ≤ a) (a2 : a ≤ 127) (b1 : -128 ≤ b) (b2 : b ≤ 127) 
    (c0 : Hid (∀ w, Calls Tryd.prog 15 #[.int .i64 n] w fun e w' => e = .returned (.int .i64 v) ∧ w = w'))
    (c1 : Hid (∀ w, Calls Tryd.prog 14 #[.int .i64 v] w (CivOut y m d k 0 w))) (c2 : Hid (∀ w, Calls Tryd.prog 18 #[.agg #[.int .i64 y, .int .i64 m, .int .i64 dd], .int .i64 k] w (NumOut x 0 w)))
    (c3 : Hid (∀ w, Tab w → Calls Tryd.prog 24 #[.int .i64 x, .int .i64 a] w (NumOut p 0 w))) (c4 : Hid (∀ w, Tab w → Calls Tryd.prog 24 #[.int .i64 p, .int .i64 b] w (NumOut q 1 w)))
    (c5 : Hid (∀ w, Tab w → Calls Tryd.prog 24 #[.int .i64 x, .int .i64 (a + b)] w (NumOut z r3 w))) :
    Calls Tryd.prog 9 #[.int .i64 n, .int .i8 a, .int .i8 b] w (BoolBe true w) := by
  have c6 := Lib.hid awake_any
  go_enter Tryd.func9, Tryd.ntmps9
  go_wp2_with fail
  refine (c0.out _).mono ?_; rintro e w' ⟨rfl, rfl⟩
  go_wp2_with fail
  refine (c1.out _).mono ?_; rintro e W1 ⟨rfl, hB⟩
  have b1' := Lib.hid hB
  have hge := Lib.hid hB.size
  clear hB
  go_upto_region 2 with (fail)
  have B2 := Lib.hid (trans_at b1'.out (alloc1 W1 (.cells #[.int .i64 y, .int .i64 m, .int .i64 d] 23)))
  have D2 := Lib.hid (TriAt.new W1 y m d)
  clear b1'
  generalize hp : W1.heap.size = p1 at D2 hge ⊢
  generalize W1.alloc (.cells #[.int .i64 y, .int .i64 m, .int .i64 d] 23) = W2 at B2 D2 ⊢
  clear hp
  obtain ⟨-, k0, k1, k2, k3, k4, k5⟩ := D2.out
  have D3 := Lib.hid (set1 D2.out dd)
  have B3 := Lib.hid (B2.out.setCell (p := ⟨p1, 2, none⟩) hge.out (.int .i64 dd))
  clear B2 D2
  go_upto_region 3 with (fail)
  rw [hz.out]
  clear k0 k1 k2 k3 k4 k5
  generalize W2.setCell ⟨p1, 2, none⟩ (.int .i64 dd) = W3 at D3 B3 ⊢
  obtain ⟨-, k0, k1, k2, -⟩ := D3.out
  go_wp2_with fail
  refine (c2.out _).mono ?_; rintro e W4 ⟨rfl, hB⟩
  have B4 := Lib.hid (trans_at B3.out hB)
  clear hB B3 D3 k0 k1 k2
  go_wp2_with fail
  refine (c3.out _ (hT.out.keep B4.out)).mono ?_; rintro e W5 ⟨rfl, hB⟩
  have B5 := Lib.hid (trans_at B4.out hB)
  clear hB B4
  go_wp2_with fail
  refine (c4.out _ (hT.out.keep B5.out)).mono ?_; rintro e W6 ⟨rfl, hB⟩
  have B6 := Lib.hid (trans_at B5.out hB)
  clear hB B5
  go_wp2_with fail
  refine (c5.out _ (hT.out.keep B6.out)).mono ?_; rintro e W7 ⟨rfl, hB⟩
  have B7 := Lib.hid (trans_at B6.out hB)
  clear hB B6
  go_wp2_with fail
  refine (c6.out _ (hT.out.keep B7.out)).mono ?_; rintro e W8 ⟨rfl, hB⟩
  have B8 := Lib.hid (trans_at B7.out hB)
  clear hB B7
  go_wp2_with fail
  go_ret
  exact ⟨rfl, B8.out⟩
set_option maxHeartbeats 4000000 in
theorem steps_c (n a b v y m d dd k x p q : Int) (w : World) (hT : Hid (Tab w)) (d1 : 1 ≤ d) (d2 : d ≤ 31) (hz : Hid ((if 28 < d then 28 else d) = dd)) (a1 : -128 ≤ a) (a2 : a ≤ 127) (b1 : -128 ≤ b) (b2 : b ≤ 127) 
    (c0 : Hid (∀ w, Calls Tryd.prog 15 #[.int .i64 n] w fun e w' => e = .returned (.int .i64 v) ∧ w = w'))
    (c1 : Hid (∀ w, Calls Tryd.prog 14 #[.int .i64 v] w (CivOut y m d k 0 w))) (c2 : Hid (∀ w, Calls Tryd.prog 18 #[.agg #[.int .i64 y, .int .i64 m, .int .i64 dd], .int .i64 k] w (NumOut x 0 w)))
    (c3 : Hid (∀ w, Tab w → Calls Tryd.prog 24 #[.int .i64 x, .int .i64 a] w (NumOut p 0 w))) (c4 : Hid (∀ w, Tab w → Calls Tryd.prog 24 #[.int .i64 p, .int .i64 b] w (NumOut q 0 w)))
    (c5 : Hid (∀ w, Tab w → Calls Tryd.prog 24 #[.int .i64 x, .int .i64 (a + b)] w (NumOut q 0 w))) :
    Calls Tryd.prog 9 #[.int .i64 n, .int .i8 a, .int .i8 b] w (BoolBe true w) := by
  have c6 := Lib.hid awake_any
  go_enter Tryd.func9, Tryd.ntmps9
  go_wp2_with fail
  refine (c0.out _).mono ?_; rintro e w' ⟨rfl, rfl⟩
  go_wp2_with fail
  refine (c1.out _).mono ?_; rintro e W1 ⟨rfl, hB⟩
  have b1' := Lib.hid hB
  have hge := Lib.hid hB.size
  clear hB
  go_upto_region 2 with (fail)
  have B2 := Lib.hid (trans_at b1'.out (alloc1 W1 (.cells #[.int .i64 y, .int .i64 m, .int .i64 d] 23)))
  have D2 := Lib.hid (TriAt.new W1 y m d)
  clear b1'
  generalize hp : W1.heap.size = p1 at D2 hge ⊢
  generalize W1.alloc (.cells #[.int .i64 y, .int .i64 m, .int .i64 d] 23) = W2 at B2 D2 ⊢
  clear hp
  obtain ⟨-, k0, k1, k2, k3, k4, k5⟩ := D2.out
  have D3 := Lib.hid (set1 D2.out dd)
  have B3 := Lib.hid (B2.out.setCell (p := ⟨p1, 2, none⟩) hge.out (.int .i64 dd))
  clear B2 D2
  go_upto_region 3 with (fail)
  rw [hz.out]
  clear k0 k1 k2 k3 k4 k5
  generalize W2.setCell ⟨p1, 2, none⟩ (.int .i64 dd) = W3 at D3 B3 ⊢
  obtain ⟨-, k0, k1, k2, -⟩ := D3.out
  go_wp2_with fail
  refine (c2.out _).mono ?_; rintro e W4 ⟨rfl, hB⟩
  have B4 := Lib.hid (trans_at B3.out hB)
  clear hB B3 D3 k0 k1 k2
  go_wp2_with fail
  refine (c3.out _ (hT.out.keep B4.out)).mono ?_; rintro e W5 ⟨rfl, hB⟩
  have B5 := Lib.hid (trans_at B4.out hB)
  clear hB B4
  go_wp2_with fail
  refine (c4.out _ (hT.out.keep B5.out)).mono ?_; rintro e W6 ⟨rfl, hB⟩
  have B6 := Lib.hid (trans_at B5.out hB)
  clear hB B5
  go_wp2_with fail
  refine (c5.out _ (hT.out.keep B6.out)).mono ?_; rintro e W7 ⟨rfl, hB⟩
  have B7 := Lib.hid (trans_at B6.out hB)
  clear hB B6
  go_wp2_with fail
  refine (c6.out _ (hT.out.keep B7.out)).mono ?_; rintro e W8 ⟨rfl, hB⟩
  have B8 := Lib.hid (trans_at B7.out hB)
  clear hB B7
  go_wp2_with fail
  go_ret
  exact ⟨rfl, B8.out⟩
theorem steps_walk (n a b : Int) (w : World) (hT : Tab w) (hn : (Lit.int .i64 n).wf = true) (ha : (Lit.int .i8 a).wf = true) (hb : (Lit.int .i8 b).wf = true) : Calls Tryd.prog 9 #[.int .i64 n, .int .i8 a, .int .i8 b] w (BoolBe true w) := by
  have bn := Go.bounds_i64 hn
  have ba := Go.bounds_i8 ha
  have bb := Go.bounds_i8 hb
  have c0 := Lib.hid (fun w => hw_any n w bn.1 bn.2)
  have vb := hw_bd n
  generalize hw n = v at *
  have c1 := Lib.hid (fun w => rcivil_yes v w vb.1 vb.2)
  have o := (day_of v vb.1 vb.2).1
  generalize yr (v / 24) = y at *
  generalize mo (v / 24) = m at *
  generalize da (v / 24) = d at *
  obtain ⟨y1, y2, m1, m2, d1, d2⟩ := o
  have mb := md_bd y m
  obtain ⟨dd, hdd⟩ : ∃ dd : Int, (if 28 < d then 28 else d) = dd := ⟨_, rfl⟩
  have hd28 : 1 ≤ dd ∧ dd ≤ 28 ∧ dd ≤ md y m := by
    by_cases e : 28 < d
    · rw [if_pos e] at hdd; omega
    · rw [if_neg e] at hdd; omega
  have ok : okD y m dd := ⟨y1, y2, m1, m2, hd28.1, hd28.2.2⟩
  have c2 := Lib.hid (fun w => rhour_yes y m dd (v % 24) w ok (by omega) (by omega))
  have xb : 24 * num y m dd + v % 24 = 24 * num y m dd + v % 24 := rfl
  have nb := num_bd y m dd ok
  have hx24 : (24 * num y m dd + v % 24) / 24 = num y m dd := by omega
  have hda : da ((24 * num y m dd + v % 24) / 24) = dd := by rw [hx24]; exact (civ_num y m dd ok).2.2
  generalize 24 * num y m dd + v % 24 = x at *
  have c3 := Lib.hid (fun w hT => add_any x a w hT (by omega) (by omega))
  have c5 := Lib.hid (fun w hT => add_any x (a + b) w hT (by omega) (by omega))
  have hT' := Lib.hid hT
  have hz := Lib.hid hdd
  have d31 : d ≤ 31 := by omega
  by_cases e1 : addB x a = true
  · rw [show addV x a = (addH x a, 0) by unfold addV; rw [if_pos e1]] at c3
    have c4 := Lib.hid (fun w hT => add_any (addH x a) b w hT (by omega) (by omega))
    by_cases e2 : addB (addH x a) b = true
    · have e3 := addH_steps x a b e1 (by rw [hda]; exact hd28.2.1) e2
      rw [show addV (addH x a) b = (addH (addH x a) b, 0) by unfold addV; rw [if_pos e2]] at c4
      rw [show addV x (a + b) = (addH (addH x a) b, 0) by unfold addV; rw [if_pos e3.1, e3.2]] at c5
      exact steps_c n a b v y m d dd _ x _ _ w hT' d1 d31 hz ba.1 ba.2 bb.1 bb.2 c0 c1 c2 c3 c4 c5
    · rw [show addV (addH x a) b = (0, 1) by unfold addV; rw [if_neg e2]] at c4
      exact steps_b _ n a b v y m d dd _ x _ _ _ w hT' d1 d31 hz ba.1 ba.2 bb.1 bb.2 c0 c1 c2 c3 c4 c5
  · rw [show addV x a = (0, 1) by unfold addV; rw [if_neg e1]] at c3
    have c4 := Lib.hid (fun w hT => add_any 0 b w hT (by omega) (by omega))
    exact steps_a _ _ n a b v y m d dd _ x _ _ _ w hT' d1 d31 hz ba.1 ba.2 bb.1 bb.2 c0 c1 c2 c3 c4 c5
end Go.Proofs.YtlhgjhdeidhibaaDoor.Cal
