/- Days and Elapsed (both). (Written by gen_days.py.) -/
import Derived.Test.YtlhgjhdeidhibaaDoorCalOv
namespace Go.Proofs.YtlhgjhdeidhibaaDoor.Cal
open Go.RowKit Go.Lib Go.Proofs.YtlhgjhdeidhibaaDoor.Bas
set_option linter.unusedVariables false

def NumBe (x : Int) (w : World) (e : Ending) (w' : World) : Prop := e = .returned (.int .i64 x) ∧ Below w.heap.size w w'
def daV (f t : Int) : Int := if pvB f t then (t - f + 23) / 24 else 0
def elV (f t h : Int) : Int × Int := if pvB f t then ((min (max h f) t - f + 23) / 24, (t - f + 23) / 24) else (0, 0)

set_option maxHeartbeats 1000000 in
theorem pdays_0 (f t : Int) (w : World) (hv : pvB f t = false) : Calls Tryd.prog 37 #[.agg #[.int .i64 f, .int .i64 t]] w (NumBe 0 w) := by
  have c := Lib.hid (fun w => valid_any f t w _ hv)
  have b0 := Lib.hid (alloc1 w (.cells #[.int .i64 f, .int .i64 t] 46))
  have D0 := Lib.hid (TwoAt.new w f t)
  clear hv
  go_enter Tryd.func37, Tryd.ntmps37
  go_wp2_with fail
  refine (c.out _).mono ?_; rintro e W1 ⟨rfl, hB⟩
  have b1 := Lib.hid (trans_at b0.out hB)
  have D1 := D0.out.keep hB
  clear hB b0 D0
  obtain ⟨-, k0, k1, -⟩ := D1
  go_wp2_with fail
  go_ret
  exact ⟨rfl, b1.out⟩
set_option maxHeartbeats 1000000 in
theorem pdays_1 (f t : Int) (w : World) (hv : pvB f t = true) : Calls Tryd.prog 37 #[.agg #[.int .i64 f, .int .i64 t]] w (NumBe ((t - f + 23) / 24) w) := by
  have c := Lib.hid (fun w => valid_any f t w _ hv)
  have b0 := Lib.hid (alloc1 w (.cells #[.int .i64 f, .int .i64 t] 46))
  have D0 := Lib.hid (TwoAt.new w f t)
  have hp := (pvB_iff f t).1 hv
  have h1 := hp.1
  have h2 := hp.2.1
  have h3 := hp.2.2
  have cb := Lib.hid (fun w => begun_any (t - f) w (by omega) (by omega))
  clear hp
  clear hv
  go_enter Tryd.func37, Tryd.ntmps37
  go_wp2_with fail
  refine (c.out _).mono ?_; rintro e W1 ⟨rfl, hB⟩
  have b1 := Lib.hid (trans_at b0.out hB)
  have D1 := D0.out.keep hB
  clear hB b0 D0
  obtain ⟨-, k0, k1, -⟩ := D1
  go_wp2_with fail
  refine (cb.out _).mono ?_; rintro e w' ⟨rfl, rfl⟩
  go_wp2_with fail
  go_ret
  exact ⟨rfl, b1.out⟩
theorem pdays_any (f t : Int) (w : World) : Calls Tryd.prog 37 #[.agg #[.int .i64 f, .int .i64 t]] w (NumBe (daV f t) w) := by
  unfold daV
  cases hv : pvB f t
  · exact pdays_0 f t w hv
  · rw [if_pos rfl]; exact pdays_1 f t w hv

set_option maxHeartbeats 1000000 in
theorem rpdays_0 (f t : Int) (w : World) (hv : pvB f t = false) : Calls Tryd.prog 38 #[.agg #[.int .i64 f, .int .i64 t]] w (NumBe 0 w) := by
  have c := Lib.hid (fun w => rvalid_any f t w _ hv)
  have b0 := Lib.hid (alloc1 w (.cells #[.int .i64 f, .int .i64 t] 46))
  have D0 := Lib.hid (TwoAt.new w f t)
  clear hv
  go_enter Tryd.func38, Tryd.ntmps38
  go_wp2_with fail
  refine (c.out _).mono ?_; rintro e W1 ⟨rfl, hB⟩
  have b1 := Lib.hid (trans_at b0.out hB)
  have D1 := D0.out.keep hB
  clear hB b0 D0
  obtain ⟨-, k0, k1, -⟩ := D1
  go_wp2_with fail
  go_ret
  exact ⟨rfl, b1.out⟩
set_option maxHeartbeats 1000000 in
theorem rpdays_1 (f t : Int) (w : World) (hv : pvB f t = true) : Calls Tryd.prog 38 #[.agg #[.int .i64 f, .int .i64 t]] w (NumBe ((t - f + 23) / 24) w) := by
  have c := Lib.hid (fun w => rvalid_any f t w _ hv)
  have b0 := Lib.hid (alloc1 w (.cells #[.int .i64 f, .int .i64 t] 46))
  have D0 := Lib.hid (TwoAt.new w f t)
  have hp := (pvB_iff f t).1 hv
  have h1 := hp.1
  have h2 := hp.2.1
  have h3 := hp.2.2
  have cb := Lib.hid (fun w => begun_any (t - f) w (by omega) (by omega))
  clear hp
  clear hv
  go_enter Tryd.func38, Tryd.ntmps38
  go_wp2_with fail
  refine (c.out _).mono ?_; rintro e W1 ⟨rfl, hB⟩
  have b1 := Lib.hid (trans_at b0.out hB)
  have D1 := D0.out.keep hB
  clear hB b0 D0
  obtain ⟨-, k0, k1, -⟩ := D1
  go_wp2_with fail
  go_ret
  exact ⟨rfl, b1.out⟩
theorem rpdays_any (f t : Int) (w : World) : Calls Tryd.prog 38 #[.agg #[.int .i64 f, .int .i64 t]] w (NumBe (daV f t) w) := by
  unfold daV
  cases hv : pvB f t
  · exact rpdays_0 f t w hv
  · rw [if_pos rfl]; exact rpdays_1 f t w hv

theorem elapsed_0 (f t h : Int) (w : World) (hv : pvB f t = false) : Calls Tryd.prog 35 #[.agg #[.int .i64 f, .int .i64 t], .int .i64 h] w (NumOut 0 0 w) := by
  have c := Lib.hid (fun w => valid_any f t w _ hv)
  have b0 := Lib.hid (alloc1 w (.cells #[.int .i64 f, .int .i64 t] 46))
  clear hv
  go_enter Tryd.func35, Tryd.ntmps35
  go_wp2_with fail
  refine (c.out _).mono ?_; rintro e W1 ⟨rfl, hB⟩
  have b1 := Lib.hid (trans_at b0.out hB)
  clear hB b0
  go_wp2_with fail
  go_ret2
  exact ⟨rfl, b1.out⟩
set_option maxHeartbeats 2000000 in
theorem elapsed_1 (f t h x y : Int) (w : World) (hv : pvB f t = true) (hx : Hid ((if h < f then f else h) = x)) (hy : Hid ((if t < x then t else x) = y)) : Calls Tryd.prog 35 #[.agg #[.int .i64 f, .int .i64 t], .int .i64 h] w (NumOut ((y - f + 23) / 24) ((t - f + 23) / 24) w) := by
  have c := Lib.hid (fun w => valid_any f t w _ hv)
  have b0 := Lib.hid (alloc1 w (.cells #[.int .i64 f, .int .i64 t] 46))
  have D0 := Lib.hid (TwoAt.new w f t)
  have hp := (pvB_iff f t).1 hv
  have hyb : f ≤ y ∧ y ≤ t := by
    have a := hx.out
    have b := hy.out
    by_cases e1 : h < f
    · rw [if_pos e1] at a
      by_cases e2 : t < x
      · rw [if_pos e2] at b; omega
      · rw [if_neg e2] at b; omega
    · rw [if_neg e1] at a
      by_cases e2 : t < x
      · rw [if_pos e2] at b; omega
      · rw [if_neg e2] at b; omega
  have h1 := hp.1
  have h2 := hp.2.1
  have h3 := hp.2.2
  have h4 := hyb.1
  have h5 := hyb.2
  have cb := Lib.hid (fun w => begun_any (y - f) w (by omega) (by omega))
  have cd := Lib.hid (fun w => pdays_1 f t w hv)
  have hwr := Lib.hid (Go.IntWalk.i64_in (y - f) (by omega))
  clear hp hyb hv
  go_enter Tryd.func35, Tryd.ntmps35
  go_wp2_with fail
  refine (c.out _).mono ?_; rintro e W1 ⟨rfl, hB⟩
  have b1 := Lib.hid (trans_at b0.out hB)
  have D1 := Lib.hid (D0.out.keep hB)
  clear hB b0 D0
  obtain ⟨-, k0, k1, -⟩ := D1.out
  go_upto_region 4 with (fail)
  rw [hx.out, hy.out]
  have hwr1 := hwr.out
  go_region_held3 (fun w' => w'.cell? ⟨w.heap.size, 0, none⟩ = some (.int .i64 f) ∧ w'.cell? ⟨w.heap.size, 1, none⟩ = some (.int .i64 t))
    (first | exact ⟨D1.out.2.1, D1.out.2.2.1⟩ | exact ⟨((D1.out.drewN 1).keep hB).2.1, ((D1.out.drewN 1).keep hB).2.2.1⟩)
    (first
      | (go_at_call 55; (with_reducible refine (cb.out _).mono ?_); rintro e w' ⟨rfl, rfl⟩)
      | (go_at_call 37; (with_reducible refine (cd.out _).mono ?_); rintro e W2 ⟨rfl, hB⟩))
  have b2 := Lib.hid (trans_at b1.out (below_of_drew hB))
  clear hB hwr1
  go_wp2_with fail
  go_ret2
  exact ⟨rfl, b2.out⟩
set_option maxHeartbeats 1000000 in
theorem relapsed_0 (f t h n : Int) (w : World) (h0 : (n == 0) = true) (cd : Hid (∀ w, Calls Tryd.prog 38 #[.agg #[.int .i64 f, .int .i64 t]] w (NumBe n w))) : Calls Tryd.prog 36 #[.agg #[.int .i64 f, .int .i64 t], .int .i64 h] w (NumOut 0 n w) := by
  have b0 := Lib.hid (alloc1 w (.cells #[.int .i64 f, .int .i64 t] 46))
  have D0 := Lib.hid (TwoAt.new w f t)
  go_enter Tryd.func36, Tryd.ntmps36
  go_wp2_with fail
  refine (cd.out _).mono ?_; rintro e W1 ⟨rfl, hB⟩
  have b1 := Lib.hid (trans_at b0.out hB)
  have D1 := Lib.hid (D0.out.keep hB)
  clear hB b0 D0
  obtain ⟨-, k0, k1, -⟩ := D1.out
  go_wp2_with fail
  try any_goals (exfalso; simp at *; omega; done)
  go_ret2
  exact ⟨rfl, b1.out⟩
set_option maxHeartbeats 1000000 in
theorem relapsed_1 (f t h n : Int) (w : World) (h0 : (n == 0) = false) (h1 : decide (h ≤ f) = true) (cd : Hid (∀ w, Calls Tryd.prog 38 #[.agg #[.int .i64 f, .int .i64 t]] w (NumBe n w))) : Calls Tryd.prog 36 #[.agg #[.int .i64 f, .int .i64 t], .int .i64 h] w (NumOut 0 n w) := by
  have b0 := Lib.hid (alloc1 w (.cells #[.int .i64 f, .int .i64 t] 46))
  have D0 := Lib.hid (TwoAt.new w f t)
  go_enter Tryd.func36, Tryd.ntmps36
  go_wp2_with fail
  refine (cd.out _).mono ?_; rintro e W1 ⟨rfl, hB⟩
  have b1 := Lib.hid (trans_at b0.out hB)
  have D1 := Lib.hid (D0.out.keep hB)
  clear hB b0 D0
  obtain ⟨-, k0, k1, -⟩ := D1.out
  go_wp2_with fail
  try any_goals (exfalso; simp at *; omega; done)
  go_ret2
  exact ⟨rfl, b1.out⟩
set_option maxHeartbeats 1000000 in
theorem relapsed_2 (f t h n : Int) (w : World) (h0 : (n == 0) = false) (h1 : decide (h ≤ f) = false) (h2 : decide (t ≤ h) = true) (cd : Hid (∀ w, Calls Tryd.prog 38 #[.agg #[.int .i64 f, .int .i64 t]] w (NumBe n w))) : Calls Tryd.prog 36 #[.agg #[.int .i64 f, .int .i64 t], .int .i64 h] w (NumOut n n w) := by
  have b0 := Lib.hid (alloc1 w (.cells #[.int .i64 f, .int .i64 t] 46))
  have D0 := Lib.hid (TwoAt.new w f t)
  go_enter Tryd.func36, Tryd.ntmps36
  go_wp2_with fail
  refine (cd.out _).mono ?_; rintro e W1 ⟨rfl, hB⟩
  have b1 := Lib.hid (trans_at b0.out hB)
  have D1 := Lib.hid (D0.out.keep hB)
  clear hB b0 D0
  obtain ⟨-, k0, k1, -⟩ := D1.out
  go_wp2_with fail
  try any_goals (exfalso; simp at *; omega; done)
  go_ret2
  exact ⟨rfl, b1.out⟩
set_option maxHeartbeats 1000000 in
theorem relapsed_3 (f t h n : Int) (w : World) (h0 : (n == 0) = false) (h1 : decide (h ≤ f) = false) (h2 : decide (t ≤ h) = false) (b1 : 0 ≤ f) (b2 : f < h) (b3 : h < t) (b4 : t ≤ 876600) (cd : Hid (∀ w, Calls Tryd.prog 38 #[.agg #[.int .i64 f, .int .i64 t]] w (NumBe n w))) : Calls Tryd.prog 36 #[.agg #[.int .i64 f, .int .i64 t], .int .i64 h] w (NumOut ((h - f + 23) / 24) n w) := by
  have b0 := Lib.hid (alloc1 w (.cells #[.int .i64 f, .int .i64 t] 46))
  have D0 := Lib.hid (TwoAt.new w f t)
  go_enter Tryd.func36, Tryd.ntmps36
  go_wp2_with fail
  refine (cd.out _).mono ?_; rintro e W1 ⟨rfl, hB⟩
  have b1 := Lib.hid (trans_at b0.out hB)
  have D1 := Lib.hid (D0.out.keep hB)
  clear hB b0 D0
  obtain ⟨-, k0, k1, -⟩ := D1.out
  go_wp2_with fail
  try any_goals (exfalso; simp at *; omega; done)
  go_ret2
  exact ⟨rfl, b1.out⟩

theorem elapsed_any (f t h : Int) (w : World) : Calls Tryd.prog 35 #[.agg #[.int .i64 f, .int .i64 t], .int .i64 h] w (NumOut (elV f t h).1 (elV f t h).2 w) := by
  unfold elV
  cases hv : pvB f t
  · exact elapsed_0 f t h w hv
  · rw [if_pos rfl]
    exact elapsed_1 f t h _ _ w hv (Lib.hid (max_if h f)) (Lib.hid (min_if t (max h f) |>.trans (Int.min_comm _ _) |>.trans (Int.min_comm _ _)))
theorem relapsed_any (f t h : Int) (w : World) : Calls Tryd.prog 36 #[.agg #[.int .i64 f, .int .i64 t], .int .i64 h] w (NumOut (elV f t h).1 (elV f t h).2 w) := by
  unfold elV
  cases hv : pvB f t
  · exact relapsed_0 f t h 0 w (by rfl) (Lib.hid fun w => rpdays_0 f t w hv)
  · rw [if_pos rfl]
    have hp := (pvB_iff f t).1 hv
    have cd := Lib.hid fun w => rpdays_1 f t w hv
    have hn : (((t - f + 23) / 24 : Int) == 0) = false := by simp; omega
    by_cases h1 : h ≤ f
    · rw [show min (max h f) t = f by omega, show (f - f + 23) / 24 = 0 by omega]
      exact relapsed_1 f t h _ w hn (decide_eq_true h1) cd
    · by_cases h2 : t ≤ h
      · rw [show min (max h f) t = t by omega]
        exact relapsed_2 f t h _ w hn (decide_eq_false h1) (decide_eq_true h2) cd
      · rw [show min (max h f) t = h by omega]
        exact relapsed_3 f t h _ w hn (decide_eq_false h1) (decide_eq_false h2) hp.1 (by omega) (by omega) hp.2.2 cd
end Go.Proofs.YtlhgjhdeidhibaaDoor.Cal
