/- Hour of the reference: the number of an hour of a day. (Written by gen_rhour.py.) -/
import Derived.Test.YtlhgjhdeidhibaaDoorCalHour
namespace Go.Proofs.YtlhgjhdeidhibaaDoor.Cal
open Go.RowKit Go.Lib Go.Proofs.YtlhgjhdeidhibaaDoor.Bas
set_option linter.unusedVariables false

set_option maxHeartbeats 2000000 in
theorem rhour_n0 (y m d z h : Int) (w : World) (y1 : decide (y < 2000) = true)  :
    Calls Tryd.prog 18 #[.agg #[.int .i64 y, .int .i64 m, .int .i64 d], .int .i64 h] w (NumOut 0 1 w) := by
  go_enter Tryd.func18, Tryd.ntmps18
  go_wp2_with fail
  go_quiet (fail)
  go_wp2_with fail
  go_ret2
  exact ⟨rfl, below_drewN (alloc1 _ _) _⟩
set_option maxHeartbeats 2000000 in
theorem rhour_n1 (y m d z h : Int) (w : World) (y1 : decide (y < 2000) = false) (y2 : decide (2099 < y) = true)  :
    Calls Tryd.prog 18 #[.agg #[.int .i64 y, .int .i64 m, .int .i64 d], .int .i64 h] w (NumOut 0 1 w) := by
  go_enter Tryd.func18, Tryd.ntmps18
  go_wp2_with fail
  go_quiet (fail)
  go_wp2_with fail
  go_ret2
  exact ⟨rfl, below_drewN (alloc1 _ _) _⟩
set_option maxHeartbeats 2000000 in
theorem rhour_n2 (y m d z h : Int) (w : World) (y1 : decide (y < 2000) = false) (y2 : decide (2099 < y) = false) (m1 : decide (m < 1) = true)  :
    Calls Tryd.prog 18 #[.agg #[.int .i64 y, .int .i64 m, .int .i64 d], .int .i64 h] w (NumOut 0 1 w) := by
  go_enter Tryd.func18, Tryd.ntmps18
  go_wp2_with fail
  go_quiet (fail)
  go_wp2_with fail
  go_ret2
  exact ⟨rfl, below_drewN (alloc1 _ _) _⟩
set_option maxHeartbeats 2000000 in
theorem rhour_n3 (y m d z h : Int) (w : World) (y1 : decide (y < 2000) = false) (y2 : decide (2099 < y) = false) (m1 : decide (m < 1) = false) (m2 : decide (12 < m) = true)  :
    Calls Tryd.prog 18 #[.agg #[.int .i64 y, .int .i64 m, .int .i64 d], .int .i64 h] w (NumOut 0 1 w) := by
  go_enter Tryd.func18, Tryd.ntmps18
  go_wp2_with fail
  go_quiet (fail)
  go_wp2_with fail
  go_ret2
  exact ⟨rfl, below_drewN (alloc1 _ _) _⟩
set_option maxHeartbeats 2000000 in
theorem rhour_n4 (y m d z h : Int) (w : World) (y1 : decide (y < 2000) = false) (y2 : decide (2099 < y) = false) (m1 : decide (m < 1) = false) (m2 : decide (12 < m) = false) (d1 : decide (d < 1) = true)  :
    Calls Tryd.prog 18 #[.agg #[.int .i64 y, .int .i64 m, .int .i64 d], .int .i64 h] w (NumOut 0 1 w) := by
  go_enter Tryd.func18, Tryd.ntmps18
  go_wp2_with fail
  go_quiet (fail)
  go_wp2_with fail
  go_ret2
  exact ⟨rfl, below_drewN (alloc1 _ _) _⟩
set_option maxHeartbeats 2000000 in
theorem rhour_n5 (y m d z h : Int) (w : World) (y1 : decide (y < 2000) = false) (y2 : decide (2099 < y) = false) (m1 : decide (m < 1) = false) (m2 : decide (12 < m) = false) (d1 : decide (d < 1) = false) (d2 : decide (z < d) = true) (c : Hid (∀ n, Calls Tryd.prog 46 #[.int .i64 y, .int .i64 m] ((w.alloc (.cells #[.int .i64 y, .int .i64 m, .int .i64 d] 23)).drewN n) fun e w' => e = .returned (.int .i64 z) ∧ ((w.alloc (.cells #[.int .i64 y, .int .i64 m, .int .i64 d] 23)).drewN n) = w')) :
    Calls Tryd.prog 18 #[.agg #[.int .i64 y, .int .i64 m, .int .i64 d], .int .i64 h] w (NumOut 0 1 w) := by
  go_enter Tryd.func18, Tryd.ntmps18
  go_wp2_with fail
  go_quiet ((go_at_call 46; exact Calls.quiet_of ((c.out _).mono fun _ _ ⟨he, hw⟩ => ⟨he, 0, hw.symm⟩)))
  go_wp2_with fail
  go_ret2
  exact ⟨rfl, below_drewN (alloc1 _ _) _⟩
set_option maxHeartbeats 2000000 in
theorem rhour_n6 (y m d z h : Int) (w : World) (y1 : decide (y < 2000) = false) (y2 : decide (2099 < y) = false) (m1 : decide (m < 1) = false) (m2 : decide (12 < m) = false) (d1 : decide (d < 1) = false) (d2 : decide (z < d) = false) (h1 : decide (h < 0) = true) (c : Hid (∀ n, Calls Tryd.prog 46 #[.int .i64 y, .int .i64 m] ((w.alloc (.cells #[.int .i64 y, .int .i64 m, .int .i64 d] 23)).drewN n) fun e w' => e = .returned (.int .i64 z) ∧ ((w.alloc (.cells #[.int .i64 y, .int .i64 m, .int .i64 d] 23)).drewN n) = w')) :
    Calls Tryd.prog 18 #[.agg #[.int .i64 y, .int .i64 m, .int .i64 d], .int .i64 h] w (NumOut 0 1 w) := by
  go_enter Tryd.func18, Tryd.ntmps18
  go_wp2_with fail
  go_quiet ((go_at_call 46; exact Calls.quiet_of ((c.out _).mono fun _ _ ⟨he, hw⟩ => ⟨he, 0, hw.symm⟩)))
  go_wp2_with fail
  go_ret2
  exact ⟨rfl, below_drewN (alloc1 _ _) _⟩
set_option maxHeartbeats 2000000 in
theorem rhour_n7 (y m d z h : Int) (w : World) (y1 : decide (y < 2000) = false) (y2 : decide (2099 < y) = false) (m1 : decide (m < 1) = false) (m2 : decide (12 < m) = false) (d1 : decide (d < 1) = false) (d2 : decide (z < d) = false) (h1 : decide (h < 0) = false) (h2 : decide (23 < h) = true) (c : Hid (∀ n, Calls Tryd.prog 46 #[.int .i64 y, .int .i64 m] ((w.alloc (.cells #[.int .i64 y, .int .i64 m, .int .i64 d] 23)).drewN n) fun e w' => e = .returned (.int .i64 z) ∧ ((w.alloc (.cells #[.int .i64 y, .int .i64 m, .int .i64 d] 23)).drewN n) = w')) :
    Calls Tryd.prog 18 #[.agg #[.int .i64 y, .int .i64 m, .int .i64 d], .int .i64 h] w (NumOut 0 1 w) := by
  go_enter Tryd.func18, Tryd.ntmps18
  go_wp2_with fail
  go_quiet ((go_at_call 46; exact Calls.quiet_of ((c.out _).mono fun _ _ ⟨he, hw⟩ => ⟨he, 0, hw.symm⟩)))
  go_wp2_with fail
  go_ret2
  exact ⟨rfl, below_drewN (alloc1 _ _) _⟩
theorem rhour_no (y m d h : Int) (w : World) (hn : ¬ (okD y m d ∧ 0 ≤ h ∧ h < 24)) : Calls Tryd.prog 18 #[.agg #[.int .i64 y, .int .i64 m, .int .i64 d], .int .i64 h] w (NumOut 0 1 w) := by
  unfold okD at hn
  by_cases y1 : y < 2000
  · exact rhour_n0 y m d 0 h w (decide_eq_true y1)
  by_cases y2 : 2099 < y
  · exact rhour_n1 y m d 0 h w (decide_eq_false y1) (decide_eq_true y2)
  by_cases m1 : m < 1
  · exact rhour_n2 y m d 0 h w (decide_eq_false y1) (decide_eq_false y2) (decide_eq_true m1)
  by_cases m2 : 12 < m
  · exact rhour_n3 y m d 0 h w (decide_eq_false y1) (decide_eq_false y2) (decide_eq_false m1) (decide_eq_true m2)
  by_cases d1 : d < 1
  · exact rhour_n4 y m d 0 h w (decide_eq_false y1) (decide_eq_false y2) (decide_eq_false m1) (decide_eq_false m2) (decide_eq_true d1)
  have c := Lib.hid (fun n => days_any y m ((w.alloc (.cells #[.int .i64 y, .int .i64 m, .int .i64 d] 23)).drewN n) (by omega) (by omega))
  by_cases d2 : md y m < d
  · exact rhour_n5 y m d _ h w (decide_eq_false y1) (decide_eq_false y2) (decide_eq_false m1) (decide_eq_false m2) (decide_eq_false d1) (decide_eq_true d2) c
  by_cases h1 : h < 0
  · exact rhour_n6 y m d _ h w (decide_eq_false y1) (decide_eq_false y2) (decide_eq_false m1) (decide_eq_false m2) (decide_eq_false d1) (decide_eq_false d2) (decide_eq_true h1) c
  by_cases h2 : 23 < h
  · exact rhour_n7 y m d _ h w (decide_eq_false y1) (decide_eq_false y2) (decide_eq_false m1) (decide_eq_false m2) (decide_eq_false d1) (decide_eq_false d2) (decide_eq_false h1) (decide_eq_true h2) c
  exact absurd ⟨by omega, by omega, by omega⟩ hn

set_option maxHeartbeats 4000000 in
theorem rhour_yes (y m d h : Int) (w : World) (ho : okD y m d) (h0 : 0 ≤ h) (h1 : h < 24) : Calls Tryd.prog 18 #[.agg #[.int .i64 y, .int .i64 m, .int .i64 d], .int .i64 h] w (NumOut (24 * num y m d + h) 0 w) := by
  obtain ⟨hy1, hy2, hm1, hm2, hd1, hd2⟩ := ho
  have c := Lib.hid (fun n => days_any y m ((w.alloc (.cells #[.int .i64 y, .int .i64 m, .int .i64 d] 23)).drewN n) hy1 hy2)
  have cl := Lib.hid (fun k w => days_any y k w hy1 hy2)
  have hd3 := (md_bd y m).2
  have hd4 : d ≤ 31 := by omega
  have y1 : decide (y < 2000) = false := by simp; omega
  have y2 : decide (2099 < y) = false := by simp; omega
  have m1 : decide (m < 1) = false := by simp; omega
  have m2 : decide (12 < m) = false := by simp; omega
  have d1 : decide (d < 1) = false := by simp; omega
  have d2 : decide (md y m < d) = false := by simp; omega
  have h2 : decide (h < 0) = false := by simp; omega
  have h3 : decide (23 < h) = false := by simp; omega
  clear hd3 hd2
  go_enter Tryd.func18, Tryd.ntmps18
  go_wp2_with fail
  go_quiet ((go_at_call 46; exact Calls.quiet_of ((c.out _).mono fun _ _ ⟨he, hw⟩ => ⟨he, 0, hw.symm⟩)))
  clear y1 y2 m1 m2 d1 d2 h2 h3 c
  go_wp2_with fail
  go_loop [6, 7] (fun r k => ∃ m' : Int, 1 ≤ m' ∧ m' ≤ m ∧ k = .int .i64 m' ∧ r = .int .i64 (d - 1 + cum y m')) (fun _ k => (12 - intOf k).toNat)
  case atStart => exact ⟨1, by omega, by omega, rfl, by rw [cum_one, Int.add_zero]⟩
  case round =>
    obtain ⟨k, hk1, hk2, rfl, rfl⟩ := hrel
    have hk3 : k ≤ 12 := by omega
    have cb2 := cum_bd y k hk1 hk3
    have cb3 := cb2.1
    have cb4 := cb2.2
    clear cb2
    by_cases hlt : k < m
    · have cs := Lib.hid (cum_succ y k hk1 hk3)
      have mb := md_bd y k
      have mb1 := mb.1
      have mb2 := mb.2
      clear mb
      have cl1 := Lib.hid (cl.out k)
      go_wp2_with (refine (cl1.out _).mono ?_; rintro e w' ⟨rfl, rfl⟩)
      go_round
      case rel => exact ⟨k + 1, by omega, by omega, rfl, by rw [cs.out]; go_num⟩
      case measure => simp [intOf]; omega
    · obtain rfl : k = m := by omega
      clear hlt
      have cle := Lib.hid (fun y h1 h2 w => leap_any y w h1 h2)
      have d0 := dby_lo
      have d0' := Lib.hid d0
      clear d0
      go_wp2_with fail
      go_loop [6, 8] (fun r g => ∃ y' : Int, 2000 ≤ y' ∧ y' ≤ y ∧ g = .int .i64 y' ∧ r = .int .i64 (d - 1 + cum y k + dby y')) (fun _ g => (2100 - intOf g).toNat)
      case atStart => exact ⟨2000, by omega, by omega, rfl, by rw [d0'.out, Int.add_zero]⟩
      case round =>
        obtain ⟨y', hy3, hy4, rfl, rfl⟩ := hrel
        have db := dby_bd y' (by omega) (by omega)
        have db1 := db.1
        have db2 := db.2
        clear db
        by_cases hlt : y' < y
        · have ds := Lib.hid (dby_succ y')
          have c1 := cle.out y' hy3 (by omega)
          by_cases hl : y' % 4 = 0
          · have c2 := Lib.hid c1
            rw [decide_eq_true hl] at c2
            have dl : Hid (dby (y' + 1) = dby y' + 365 + 1) := Lib.hid (by rw [ds.out]; unfold lp; rw [if_pos hl])
            clear c1 hl
            go_wp2_with (refine (c2.out _).mono ?_; rintro e w' ⟨rfl, rfl⟩)
            go_round
            case rel => exact ⟨y' + 1, by omega, by omega, rfl, by rw [dl.out]; go_num⟩
            case measure => simp [intOf]; omega
          · have c2 := Lib.hid c1
            rw [decide_eq_false hl] at c2
            have dl : Hid (dby (y' + 1) = dby y' + 365) := Lib.hid (by rw [ds.out]; unfold lp; rw [if_neg hl, Int.add_zero])
            clear c1 hl
            go_wp2_with (refine (c2.out _).mono ?_; rintro e w' ⟨rfl, rfl⟩)
            go_round
            case rel => exact ⟨y' + 1, by omega, by omega, rfl, by rw [dl.out]; go_num⟩
            case measure => simp [intOf]; omega
        · obtain rfl : y' = y := by omega
          clear hlt
          have hfin : 24 * (d - 1 + cum y' k + dby y') + h = 24 * num y' k d + h := by unfold num; omega
          have hfin' := Lib.hid hfin
          clear hfin
          go_wp2_with fail
          go_ret2
          refine ⟨?_, below_drewN (alloc1 _ _) _⟩
          rw [← hfin'.out]
          rfl
end Go.Proofs.YtlhgjhdeidhibaaDoor.Cal
