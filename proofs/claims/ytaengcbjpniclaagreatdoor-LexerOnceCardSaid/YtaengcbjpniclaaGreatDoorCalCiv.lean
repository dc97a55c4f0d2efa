/- Civil of package calendar and of the reference: the day of an hour. -/
import Derived.Test.YtaengcbjpniclaaGreatDoorCalLeaf
namespace Go.Proofs.YtaengcbjpniclaaGreatDoor.Cal
open Go.RowKit Go.Lib Go.Proofs.YtaengcbjpniclaaGreatDoor.Bas
set_option linter.unusedVariables false

set_option maxHeartbeats 400000 in
theorem days_any (y m : Int) (w : World) (hy : 2000 ≤ y) (hy2 : y ≤ 2099) :
    Calls Tryz.prog 62 #[.int .i64 y, .int .i64 m] w fun e w' => e = .returned (.int .i64 (md y m)) ∧ w = w' := by
  by_cases h2 : m = 2
  · subst h2
    have e : md y 2 = if y % 4 = 0 then 29 else 28 := by unfold md lp; rw [if_pos rfl]; split <;> rfl
    rw [e]; clear e
    by_cases h4 : y % 4 = 0
    · rw [if_pos h4]
      have c := Lib.hid (leap_any y w hy hy2)
      rw [decide_eq_true h4] at c
      clear h4
      go_enter Tryz.func62, Tryz.ntmps62
      go_wp2_with (refine c.out.mono ?_; rintro e w' ⟨rfl, rfl⟩)
      go_ret
      exact ⟨rfl, rfl⟩
    · rw [if_neg h4]
      have c := Lib.hid (leap_any y w hy hy2)
      rw [decide_eq_false h4] at c
      clear h4
      go_enter Tryz.func62, Tryz.ntmps62
      go_wp2_with (refine c.out.mono ?_; rintro e w' ⟨rfl, rfl⟩)
      go_ret
      exact ⟨rfl, rfl⟩
  · by_cases h3 : m = 4 ∨ m = 6 ∨ m = 9 ∨ m = 11
    · rcases h3 with h | h | h | h <;> subst h <;> clear h2
      all_goals
        rw [show md y _ = 30 from rfl]
        go_enter Tryz.func62, Tryz.ntmps62
        go_wp2
        go_ret
        exact ⟨rfl, rfl⟩
    · rw [show md y m = 31 by unfold md; rw [if_neg h2, if_neg h3]]
      have b2 : (m == 2) = false := by simp; omega
      have b4 : (m == 4) = false := by simp; omega
      have b6 : (m == 6) = false := by simp; omega
      have b9 : (m == 9) = false := by simp; omega
      have b11 : (m == 11) = false := by simp; omega
      clear h2 h3
      go_enter Tryz.func62, Tryz.ntmps62
      go_wp2
      go_ret
      exact ⟨rfl, rfl⟩

/-- A date as a value. -/
def dateV (y m d : Int) : Value := .agg #[.int .i64 y, .int .i64 m, .int .i64 d]
def CivOut (y m d h r : Int) (w : World) (e : Ending) (w' : World) : Prop := e = .returned (.tuple #[.agg #[.int .i64 y, .int .i64 m, .int .i64 d], .int .i64 h, .int .i64 r]) ∧ Below w.heap.size w w'

theorem civil_no (n : Int) (w : World) (h : ¬ (0 ≤ n ∧ n ≤ 876599)) : Calls Tryz.prog 57 #[.int .i64 n] w (CivOut 0 0 0 0 1 w) := by
  have c := Lib.hid (fun w => inRange_no n w h)
  clear h
  go_enter Tryz.func57, Tryz.ntmps57
  go_wp2_with (refine (c.out _).mono ?_; rintro e w' ⟨rfl, rfl⟩)
  exact bodyPost_ret (v := .tuple #[.agg #[.int .i64 0, .int .i64 0, .int .i64 0], .int .i64 0, .int .i64 1]) (by simp [results, Tryz.results57, go_sem]) rfl ⟨rfl, (((Below.refl _ _).alloc (Nat.le_refl _) _))⟩
theorem rcivil_no (n : Int) (w : World) (h : ¬ (0 ≤ n ∧ n ≤ 876599)) : Calls Tryz.prog 53 #[.int .i64 n] w (CivOut 0 0 0 0 1 w) := by
  have c := Lib.hid (fun w => inHours_no n w h)
  clear h
  go_enter Tryz.func53, Tryz.ntmps53
  go_wp2_with (refine (c.out _).mono ?_; rintro e w' ⟨rfl, rfl⟩)
  exact bodyPost_ret (v := .tuple #[.agg #[.int .i64 0, .int .i64 0, .int .i64 0], .int .i64 0, .int .i64 1]) (by simp [results, Tryz.results53, go_sem]) rfl ⟨rfl, (((Below.refl _ _).alloc (Nat.le_refl _) _))⟩

set_option maxHeartbeats 1000000 in
theorem civil_yes (n : Int) (w : World) (hT : Tab w) (h0 : 0 ≤ n) (h1 : n ≤ 876599) : Calls Tryz.prog 57 #[.int .i64 n] w (CivOut (yr (n / 24)) (mo (n / 24)) (da (n / 24)) (n % 24) 0 w) := by
  have c := Lib.hid (fun w => inRange_yes n w h0 h1)
  have cy := Lib.hid (fun w => yearOf_any (n / 24) w (by omega) (by omega))
  have yb := yr_bd (n / 24) (by omega) (by omega)
  have cb := Lib.hid (fun w => before_any (yr (n / 24)) w yb.1 yb.2)
  have cl := Lib.hid (fun m w hT => length_any (yr (n / 24)) m w hT yb.1 yb.2)
  have lo := yr_lo (n / 24)
  have hi := yr_hi (n / 24)
  rw [dby_succ] at hi
  have l01 := lp_01 (yr (n / 24))
  have db := dby_bd _ yb.1 yb.2
  have hT1 := Lib.hid (hT.keep ((Below.refl _ _).alloc (Nat.le_refl _) (.cells #[.int .i64 0, .int .i64 0, .int .i64 0] 70)))
  have hfin : ∀ m : Int, 1 ≤ m → m ≤ 12 → 0 ≤ n / 24 - dby (yr (n / 24)) - cum (yr (n / 24)) m → n / 24 - dby (yr (n / 24)) - cum (yr (n / 24)) m < md (yr (n / 24)) m → mo (n / 24) = m ∧ da (n / 24) = n / 24 - dby (yr (n / 24)) - cum (yr (n / 24)) m + 1 := by
    intro m a1 a2 a3 a4
    exact (civ_eq (n / 24) (yr (n / 24)) m _ ⟨yb.1, yb.2, a1, a2, by omega, by omega⟩ (by unfold num; omega)).2
  have hfin' := Lib.hid hfin
  have yb1 := yb.1
  have yb2 := yb.2
  have db1 := db.1
  have db2 := db.2
  have l1 := l01.1
  have l2 := l01.2
  have hqb1 : 0 ≤ n / 24 := by omega
  have hqb2 : n / 24 ≤ 36524 := by omega
  clear hfin hT yb db l01
  generalize hq : n / 24 = q at *
  have hq' := Lib.hid hq
  clear hq
  go_enter Tryz.func57, Tryz.ntmps57
  go_wp2_with fail
  refine (c.out _).mono ?_; rintro e w' ⟨rfl, rfl⟩
  go_wp2_with fail
  rw [hq'.out]
  refine (cy.out _).mono ?_; rintro e w' ⟨rfl, rfl⟩
  go_wp2_with fail
  refine (cb.out _).mono ?_; rintro e w' ⟨rfl, rfl⟩
  go_wp2_with fail
  go_loop [5, 7] (fun r k => ∃ m : Int, 1 ≤ m ∧ m ≤ 12 ∧ k = .int .i64 m ∧ 0 ≤ q - dby (yr q) - cum (yr q) m ∧ r = .int .i64 (q - dby (yr q) - cum (yr q) m)) (fun _ k => (12 - intOf k).toNat)
  case atStart => exact ⟨1, by omega, by omega, rfl, by rw [cum_one]; omega, by rw [cum_one]; simp⟩
  case round =>
    obtain ⟨m, hm1, hm2, rfl, hr, rfl⟩ := hrel
    have mb := md_bd (yr q) m
    have mb1 := mb.1
    have mb2 := mb.2
    have cs := Lib.hid (cum_succ (yr q) m hm1 hm2)
    have cb2 := cum_bd (yr q) m hm1 hm2
    have cb3 := cb2.1
    have cb4 := cb2.2
    clear mb cb2
    have cl1 := Lib.hid (cl.out m _ hT1.out hm1 hm2)
    by_cases hd : md (yr q) m ≤ q - dby (yr q) - cum (yr q) m
    · have hm12 : m < 12 := by
        have := cs.out
        by_cases e : m = 12
        · subst e
          have := cum_end (yr q)
          rw [show (12 : Int) + 1 = 13 from rfl] at *
          omega
        · omega
      go_wp2_with (refine cl1.out.mono ?_; rintro e w' ⟨rfl, rfl⟩)
      go_round
      case rel => exact ⟨m + 1, by omega, by omega, rfl, by rw [cs.out]; omega, by rw [cs.out]; go_num⟩
      case measure => simp [intOf]; omega
    · have hd2 : q - dby (yr q) - cum (yr q) m < md (yr q) m := by omega
      have f := Lib.hid (hfin'.out m hm1 hm2 hr hd2)
      clear hd
      go_wp2_with (refine cl1.out.mono ?_; rintro e w' ⟨rfl, rfl⟩)
      exact bodyPost_ret (v := .tuple #[.agg #[.int .i64 (yr q), .int .i64 m, .int .i64 (q - dby (yr q) - cum (yr q) m + 1)], .int .i64 (n % 24), .int .i64 0]) (by simp [results, Tryz.results57, go_sem]) rfl ⟨by rw [f.out.1, f.out.2], (((Below.refl _ _).alloc (Nat.le_refl _) _))⟩

theorem md_of_rleap (y : Int) : 0 ≤ lp y := (lp_01 y).1
set_option maxHeartbeats 2000000 in
theorem rcivil_yes (n : Int) (w : World) (h0 : 0 ≤ n) (h1 : n ≤ 876599) : Calls Tryz.prog 53 #[.int .i64 n] w (CivOut (yr (n / 24)) (mo (n / 24)) (da (n / 24)) (n % 24) 0 w) := by
  have c := Lib.hid (fun w => inHours_yes n w h0 h1)
  have cl := Lib.hid (fun y m w => days_any y m w)
  have hfin : ∀ y m d : Int, 2000 ≤ y → y ≤ 2099 → 1 ≤ m → m ≤ 12 → 0 ≤ d → d < md y m → d + dby y + cum y m = n / 24 → yr (n / 24) = y ∧ mo (n / 24) = m ∧ da (n / 24) = d + 1 := by
    intro y m d b1 b2 a1 a2 a3 a4 a5
    exact civ_eq (n / 24) y m (d + 1) ⟨b1, b2, a1, a2, by omega, by omega⟩ (by unfold num; omega)
  have hfin' := Lib.hid hfin
  have hqb1 : 0 ≤ n / 24 := by omega
  have hqb2 : n / 24 ≤ 36524 := by omega
  clear hfin
  generalize hq : n / 24 = q at *
  have hq' := Lib.hid hq
  clear hq
  go_enter Tryz.func53, Tryz.ntmps53
  go_wp2_with fail
  refine (c.out _).mono ?_; rintro e w' ⟨rfl, rfl⟩
  go_wp2_with fail
  rw [hq'.out]
  go_loop [5, 6, 7] (fun r g k => ∃ y m d : Int, 2000 ≤ y ∧ y ≤ 2099 ∧ 1 ≤ m ∧ m ≤ 12 ∧ 0 ≤ d ∧ d ≤ 36524 ∧ Hid (d + dby y + cum y m = q) ∧ g = .int .i64 y ∧ k = .int .i64 m ∧ r = .int .i64 d) (fun r _ _ => (intOf r).toNat)
  case atStart => exact ⟨2000, 1, q, by omega, by omega, by omega, by omega, by omega, by omega, Lib.hid (by rw [dby_lo, cum_one]; omega), rfl, rfl, rfl⟩
  case round =>
    obtain ⟨y, m, d, hy1, hy2, hm1, hm2, hd1, hd2, hP, rfl, rfl, rfl⟩ := hrel
    have mb := md_bd y m
    have mb1 := mb.1
    have mb2 := mb.2
    clear mb
    have cl1 := Lib.hid (fun w => cl.out y m w hy1 hy2)
    by_cases hd : md y m ≤ d
    · by_cases hm12 : m = 12
      · subst hm12
        have hy3 : y < 2099 ∧ Hid (d - md y 12 + dby (y + 1) + cum (y + 1) 1 = q) := by
          have a1 := cum_succ y 12 (by omega) (by omega)
          have a2 := cum_end y
          have a3 := dby_succ y
          have a4 := cum_one (y + 1)
          rw [show (12 : Int) + 1 = 13 from rfl] at a1
          have a5 := hP.out
          refine ⟨?_, Lib.hid (by omega)⟩
          by_cases e : y = 2099
          · subst e; have := dby_hi; rw [show (2099 : Int) + 1 = 2100 from rfl] at *; omega
          · omega
        obtain ⟨hy3, hQ⟩ := hy3
        go_wp2_with (refine (cl1.out _).mono ?_; rintro e w' ⟨rfl, rfl⟩)
        go_round
        case rel => exact ⟨y + 1, 1, d - md y 12, by omega, by omega, by omega, by omega, by omega, by omega, hQ, rfl, rfl, rfl⟩
        case measure => simp [intOf]; omega
      · have hm13 : m < 12 := by omega
        have hQ : Hid (d - md y m + dby y + cum y (m + 1) = q) := by
          have a1 := cum_succ y m (by omega) (by omega)
          have a5 := hP.out
          exact Lib.hid (by omega)
        clear hm12
        go_wp2_with (refine (cl1.out _).mono ?_; rintro e w' ⟨rfl, rfl⟩)
        go_round
        case rel => exact ⟨y, m + 1, d - md y m, by omega, by omega, by omega, by omega, by omega, by omega, hQ, rfl, rfl, rfl⟩
        case measure => simp [intOf]; omega
    · have hd3 : d < md y m := by omega
      have f := Lib.hid (hfin'.out y m d hy1 hy2 hm1 hm2 hd1 hd3 hP.out)
      clear hd
      go_wp2_with (refine (cl1.out _).mono ?_; rintro e w' ⟨rfl, rfl⟩)
      exact bodyPost_ret (v := .tuple #[.agg #[.int .i64 y, .int .i64 m, .int .i64 (d + 1)], .int .i64 (n % 24), .int .i64 0]) (by simp [results, Tryz.results53, go_sem]) rfl ⟨by rw [f.out.1, f.out.2.1, f.out.2.2], (((Below.refl _ _).alloc (Nat.le_refl _) _))⟩
end Go.Proofs.YtaengcbjpniclaaGreatDoor.Cal
