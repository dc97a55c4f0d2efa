/- AddMonths of package calendar and of the reference. -/
import Derived.Test.YtlhgjhdeidhibaaDoorCalParse
import Derived.StillTailTactics
namespace Go.Proofs.YtlhgjhdeidhibaaDoor.Cal
open Go.RowKit Go.Lib Go.Proofs.YtlhgjhdeidhibaaDoor.Bas
set_option linter.unusedVariables false

theorem mix_zero (h n : Int) : mix h n = mix h 0 + n := by unfold mix; omega
theorem mix_bd (h : Int) (h0 : 0 ≤ h) (h1 : h ≤ 876599) : 0 ≤ mix h 0 ∧ mix h 0 ≤ 1199 := by
  have o := (day_of h h0 h1).1
  unfold okD at o
  unfold mix; omega
theorem Tab.drew {w : World} (h : Tab w) : Tab w.drew := h
theorem below_of_drew {w w' : World} (h : Below w.drew.heap.size w.drew w') : Below w.heap.size w w' := ⟨h.os, h.tape, h.output, h.size, h.block⟩
theorem trans_at {a b c : World} (h : Below a.heap.size a b) (k : Below b.heap.size b c) : Below a.heap.size a c := h.trans (k.mono h.size)

theorem add_far (h n : Int) (w : World) (hh : ¬ (0 ≤ h ∧ h ≤ 876599)) : Calls Tryd.prog 24 #[.int .i64 h, .int .i64 n] w (NumOut 0 1 w) := by
  have c := Lib.hid (civil_no h w hh)
  clear hh
  go_enter Tryd.func24, Tryd.ntmps24
  go_wp2_with fail
  refine c.out.mono ?_; rintro e w1 ⟨rfl, hB⟩
  have hB' := Lib.hid (hB.trans ((alloc1 w1 (.cells #[.int .i64 0, .int .i64 0, .int .i64 0] 23)).mono hB.size))
  clear hB
  go_wp2_with fail
  go_ret2
  exact ⟨rfl, hB'.out⟩

set_option maxHeartbeats 1000000 in
theorem add_out (h n : Int) (w : World) (hT : Tab w) (h0 : 0 ≤ h) (h1 : h ≤ 876599) (n1 : -9223372036854775808 ≤ n) (n2 : n ≤ 9223372036854775807) (hn : mix h n < 0 ∨ 1200 ≤ mix h n) :
    Calls Tryd.prog 24 #[.int .i64 h, .int .i64 n] w (NumOut 0 1 w) := by
  have c := Lib.hid (civil_yes h w hT h0 h1)
  have o := (day_of h h0 h1).1
  unfold okD at o
  rw [mix_zero] at hn
  have mb := mix_bd h h0 h1
  have em : mix h 0 = (yr (h / 24) - 2000) * 12 + mo (h / 24) - 1 := by unfold mix; omega
  obtain ⟨y1, y2, m1, m2, d1, d2⟩ := o
  rw [em] at hn mb
  have hc := Lib.hid (fun (w1 : World) (hB : Below w.heap.size w w1) => hB.trans ((alloc1 w1 (.cells #[.int .i64 (yr (h / 24)), .int .i64 (mo (h / 24)), .int .i64 (da (h / 24))] 23)).mono hB.size))
  generalize yr (h / 24) = y at *
  generalize mo (h / 24) = m at *
  generalize da (h / 24) = d at *
  generalize h % 24 = k at *
  have mb1 := mb.1
  have mb2 := mb.2
  clear em mb d2 hT
  rcases hn with hn | hn
  · have t1 : n < -((y - 2000) * 12 + m - 1) := by omega
    clear hn
    go_enter Tryd.func24, Tryd.ntmps24
    go_wp2_with fail
    refine c.out.mono ?_; rintro e w1 ⟨rfl, hB⟩
    have hB' := Lib.hid (hc.out _ hB)
    clear hB
    go_wp2_with fail
    go_ret2
    exact ⟨rfl, hB'.out⟩
  · have t1 : 1200 - ((y - 2000) * 12 + m - 1) ≤ n := by omega
    clear hn
    go_enter Tryd.func24, Tryd.ntmps24
    go_wp2_with fail
    refine c.out.mono ?_; rintro e w1 ⟨rfl, hB⟩
    have hB' := Lib.hid (hc.out _ hB)
    clear hB
    go_wp2_with fail
    go_ret2
    exact ⟨rfl, hB'.out⟩

set_option maxHeartbeats 4000000 in
theorem add_yes (h n : Int) (w : World) (hT : Tab w) (hb : addB h n = true) : Calls Tryd.prog 24 #[.int .i64 h, .int .i64 n] w (NumOut (addH h n) 0 w) := by
  have hi := (addB_iff h n).1 hb
  have c := Lib.hid (civil_yes h w hT hi.1 hi.2.1)
  have o := (day_of h hi.1 hi.2.1).1
  unfold okD at o
  have ok2 := mday_ok (mix h n) (da (h / 24)) hi.2.2.1 hi.2.2.2 o.2.2.2.2.1
  have hh0 : 0 ≤ h % 24 := by omega
  have hh1 : h % 24 < 24 := by omega
  have cH := Lib.hid (fun w hT => hour_yes (2000 + mix h n / 12) (mix h n % 12 + 1) (mday (mix h n) (da (h / 24))) (h % 24) w hT ok2 hh0 hh1)
  have cL := Lib.hid (fun w hT => length_any (2000 + mix h n / 12) (mix h n % 12 + 1) w hT (by omega) (by omega) (by omega) (by omega))
  have em : mix h n = (yr (h / 24) - 2000) * 12 + mo (h / 24) - 1 + n := by unfold mix; omega
  have hmin : min (da (h / 24)) (md (2000 + mix h n / 12) (mix h n % 12 + 1)) = mday (mix h n) (da (h / 24)) := rfl
  have hres : 24 * num (2000 + mix h n / 12) (mix h n % 12 + 1) (mday (mix h n) (da (h / 24))) + h % 24 = addH h n := rfl
  have mdb := md_bd (2000 + mix h n / 12) (mix h n % 12 + 1)
  rw [hres] at cH
  generalize addH h n = R at *
  generalize mday (mix h n) (da (h / 24)) = dd at *
  generalize md (2000 + mix h n / 12) (mix h n % 12 + 1) = z at *
  rw [em] at hi cH cL
  obtain ⟨y1, y2, m1, m2, d1, d2⟩ := o
  have dm := (md_bd (yr (h / 24)) (mo (h / 24))).2
  have d3 : da (h / 24) ≤ 31 := by omega
  obtain ⟨hi1, hi2, hi3, hi4⟩ := hi
  have md1 := mdb.1
  have md2 := mdb.2
  have hT' := Lib.hid hT
  clear em hres ok2 hb hT d2 dm mdb
  generalize yr (h / 24) = y at *
  generalize mo (h / 24) = m at *
  generalize da (h / 24) = d at *
  generalize h % 24 = k at *
  have n1 : -1200 ≤ n := by omega
  have n2 : n ≤ 1200 := by omega
  have t1 : decide (n < -((y - 2000) * 12 + m - 1)) = false := by simp; omega
  have t2 : decide (1200 - ((y - 2000) * 12 + m - 1) ≤ n) = false := by simp; omega
  have hdd : (z < d ∧ z = dd) ∨ (¬ z < d ∧ d = dd) := by omega
  rcases hdd with ⟨hz, rfl⟩ | ⟨hz, rfl⟩
  · clear hmin
    go_enter Tryd.func24, Tryd.ntmps24
    go_wp2_with fail
    refine c.out.mono ?_; rintro e w1 ⟨rfl, hB⟩
    have hB' := Lib.hid hB
    clear hB
    go_wp2_with fail
    have hY : (2000 : Int) ≤ 2000 + ((y - 2000) * 12 + m - 1 + n) / 12 ∧ 2000 + ((y - 2000) * 12 + m - 1 + n) / 12 ≤ 2099 ∧ 1 ≤ ((y - 2000) * 12 + m - 1 + n) % 12 + 1 ∧ ((y - 2000) * 12 + m - 1 + n) % 12 + 1 ≤ 12 := by omega
    clear t1 t2
    generalize 2000 + ((y - 2000) * 12 + m - 1 + n) / 12 = Y at *
    generalize ((y - 2000) * 12 + m - 1 + n) % 12 + 1 = M at *
    have hTa := hT'.out.keep (hB'.out.trans ((alloc1 w1 (.cells #[.int .i64 Y, .int .i64 M, .int .i64 d] 23)).mono hB'.out.size))
    have cL1 := (cL.out ((w1.alloc (.cells #[.int .i64 Y, .int .i64 M, .int .i64 d] 23)).drewN 1) (hTa.drewN 1)).mono fun _ _ h => And.intro h.1 h.2.symm
    have cL2 := Lib.hid cL1
    clear cL1 hTa
    refine wp_region_still_tail 9 (by kernel_rfl) (by kernel_rfl) ?_
    simp only [List.take_succ_cons, List.take_zero, List.drop_succ_cons, List.drop_zero]
    change wpStill _ _ (World.drew (w1.alloc (.cells #[.int .i64 Y, .int .i64 M, .int .i64 d] 23))) (fun a' => wpList _ _ _ _ a' (World.drew (w1.alloc (.cells #[.int .i64 Y, .int .i64 M, .int .i64 d] 23)))) _ _
    iterate 6 still_step
    still_call cL2.out
    still_step
    still_step
    refine wpStill_nil ?_
    have a1 := Lib.hid (hB'.out.trans ((alloc1 w1 (.cells #[.int .i64 Y, .int .i64 M, .int .i64 z] 23)).mono hB'.out.size))
    have hTb := Lib.hid (hT'.out.keep a1.out)
    clear hY
    go_wp2_with fail
    (with_reducible refine (cH.out _ hTb.out.drew).mono ?_); rintro e w2 ⟨rfl, hB2⟩
    have hB3 := Lib.hid (trans_at a1.out (below_of_drew hB2))
    clear hB2
    go_wp2_with fail
    go_ret2
    exact ⟨rfl, hB3.out⟩
  · clear hmin
    go_enter Tryd.func24, Tryd.ntmps24
    go_wp2_with fail
    refine c.out.mono ?_; rintro e w1 ⟨rfl, hB⟩
    have hB' := Lib.hid hB
    clear hB
    go_wp2_with fail
    have hY : (2000 : Int) ≤ 2000 + ((y - 2000) * 12 + m - 1 + n) / 12 ∧ 2000 + ((y - 2000) * 12 + m - 1 + n) / 12 ≤ 2099 ∧ 1 ≤ ((y - 2000) * 12 + m - 1 + n) % 12 + 1 ∧ ((y - 2000) * 12 + m - 1 + n) % 12 + 1 ≤ 12 := by omega
    clear t1 t2
    generalize 2000 + ((y - 2000) * 12 + m - 1 + n) / 12 = Y at *
    generalize ((y - 2000) * 12 + m - 1 + n) % 12 + 1 = M at *
    have hTa := hT'.out.keep (hB'.out.trans ((alloc1 w1 (.cells #[.int .i64 Y, .int .i64 M, .int .i64 d] 23)).mono hB'.out.size))
    have cL1 := (cL.out ((w1.alloc (.cells #[.int .i64 Y, .int .i64 M, .int .i64 d] 23)).drewN 1) (hTa.drewN 1)).mono fun _ _ h => And.intro h.1 h.2.symm
    have cL2 := Lib.hid cL1
    clear cL1 hTa
    refine wp_region_still_tail 9 (by kernel_rfl) (by kernel_rfl) ?_
    simp only [List.take_succ_cons, List.take_zero, List.drop_succ_cons, List.drop_zero]
    change wpStill _ _ (World.drew (w1.alloc (.cells #[.int .i64 Y, .int .i64 M, .int .i64 d] 23))) (fun a' => wpList _ _ _ _ a' (World.drew (w1.alloc (.cells #[.int .i64 Y, .int .i64 M, .int .i64 d] 23)))) _ _
    iterate 6 still_step
    still_call cL2.out
    still_step
    still_step
    refine wpStill_nil ?_
    have a1 := Lib.hid (hB'.out.trans ((alloc1 w1 (.cells #[.int .i64 Y, .int .i64 M, .int .i64 d] 23)).mono hB'.out.size))
    have hTb := Lib.hid (hT'.out.keep a1.out)
    clear hY
    go_wp2_with fail
    (with_reducible refine (cH.out _ hTb.out.drew).mono ?_); rintro e w2 ⟨rfl, hB2⟩
    have hB3 := Lib.hid (trans_at a1.out (below_of_drew hB2))
    clear hB2
    go_wp2_with fail
    go_ret2
    exact ⟨rfl, hB3.out⟩

end Go.Proofs.YtlhgjhdeidhibaaDoor.Cal
