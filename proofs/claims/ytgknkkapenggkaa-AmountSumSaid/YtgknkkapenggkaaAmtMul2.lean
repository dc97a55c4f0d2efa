/- MulDiv of the reference: its main ways; both functions return the pair md. -/
import Derived.Test.YtgknkkapenggkaaAmtMul
namespace Go.Proofs.Ytgknkkapenggkaa.Amt
open Go.RowKit Go.Lib
set_option linter.unusedVariables false

set_option maxRecDepth 100000 in
set_option maxHeartbeats 400000 in
theorem rmd_pos_over (n num den : Nat) (mode : Int) (w : World) (m1 : 1 ≤ mode) (m2 : mode ≤ 5)
    (hn0 : 0 ≤ n) (hn : n ≤ 17592186044416) (hu : num ≤ 17592186044416) (hd0 : 1 ≤ den) (hd : den ≤ 17592186044416) (hh : Hid (35184372088832 < n * num / den)) :
    Calls Try.prog 13 #[.int .i64 (n : Int), .int .i64 num, .int .i64 den, .int .i64 mode] w fun e w' => e = .returned (.tuple #[.int .i64 0, .int .i64 3]) ∧ Dr w w' := by
  have t1 : decide (mode < 1) = false := by simp; omega
  have t2 : decide (5 < mode) = false := by simp; omega
  have t3 : decide ((num : Int) < 0) = false := by simp
  have t4 : decide (17592186044416 < (num : Int)) = false := by simp; omega
  have t6 : decide ((den : Int) < 0) = false := by simp
  have t7 : decide (17592186044416 < (den : Int)) = false := by simp; omega
  have z0 : ((den : Int) == 0) = false := by simp; omega
  go_enter Try.func13, Try.ntmps13
  go_wp2_with fail
  refine (rvalid_yes _ _ (by omega) (by omega)).mono ?_; rintro e w' ⟨rfl, rfl⟩
  go_wp2_with fail
  refine (divide_no n num den hn hu (by omega) (by omega) _ hh.out).mono ?_; rintro e w' ⟨rfl, nn, rfl⟩
  go_wp2_with fail
  go_ret2
  exact ⟨rfl, nn, rfl⟩

set_option maxRecDepth 100000 in
set_option maxHeartbeats 400000 in
theorem rmd_pos_main (n num den : Nat) (mode : Int) (Q R : Nat) (hQ : Hid (n * num / den = Q)) (hR : Hid (n * num % den = R)) (w : World) (m1 : 1 ≤ mode) (m2 : mode ≤ 5)
    (hn0 : 0 ≤ n) (hn : n ≤ 17592186044416) (hu : num ≤ 17592186044416) (hd0 : 1 ≤ den) (hd : den ≤ 17592186044416) (hh : Hid (n * num / den ≤ 35184372088832)) (hq : (Q : Int) ≤ 35184372088832) (hr : R < den)
    (N E : Int) (hN : Hid ((if 17592186044416 < kk Q R den mode false then ((0 : Int), (3 : Int)) else (kk Q R den mode false, 0)) = (N, E))) :
    Calls Try.prog 13 #[.int .i64 (n : Int), .int .i64 num, .int .i64 den, .int .i64 mode] w fun e w' => e = .returned (.tuple #[.int .i64 N, .int .i64 E]) ∧ Dr w w' := by
  have t1 : decide (mode < 1) = false := by simp; omega
  have t2 : decide (5 < mode) = false := by simp; omega
  have t3 : decide ((num : Int) < 0) = false := by simp
  have t4 : decide (17592186044416 < (num : Int)) = false := by simp; omega
  have t6 : decide ((den : Int) < 0) = false := by simp
  have t7 : decide (17592186044416 < (den : Int)) = false := by simp; omega
  have z0 : ((den : Int) == 0) = false := by simp; omega
  have up0 := fun w => up_any (Q : Int) (R : Int) (den : Int) mode false w (by omega) (by omega) (by omega) (by omega) (by omega)
  have hN' := hN.out
  unfold kk at hN'
  generalize upB (Q : Int) (R : Int) (den : Int) mode false = b at up0 hN'
  have up := Lib.hid up0
  clear up0
  cases b
  · simp only [Bool.false_eq_true, if_false] at hN'
    by_cases q1 : (Q : Int) ≤ 17592186044416
    · rw [if_neg (by omega)] at hN'
      have hN'' := Lib.hid hN'
      clear hN hN'
      go_enter Try.func13, Try.ntmps13
      go_wp2_with fail
      refine (rvalid_yes _ _ (by omega) (by omega)).mono ?_; rintro e w' ⟨rfl, rfl⟩
      go_wp2_with fail
      refine (divide_yes n num den Q R hQ hR hn hu (by omega) (by omega) _ hh.out).mono ?_; rintro e w' ⟨rfl, nn, rfl⟩
      go_wp2_with fail
      refine (up.out _).mono ?_; rintro e w' ⟨rfl, rfl⟩
      go_wp2_with fail
      go_ret2
      have e1 := congrArg Prod.fst hN''.out; have e2 := congrArg Prod.snd hN''.out; simp only at e1 e2; subst e1; subst e2
      exact ⟨by simp, nn, rfl⟩
    · rw [if_pos (by omega)] at hN'
      have hN'' := Lib.hid hN'
      have q4 : 17592186044417 ≤ (Q : Int) := by omega
      clear hN hN' q1
      go_enter Try.func13, Try.ntmps13
      go_wp2_with fail
      refine (rvalid_yes _ _ (by omega) (by omega)).mono ?_; rintro e w' ⟨rfl, rfl⟩
      go_wp2_with fail
      refine (divide_yes n num den Q R hQ hR hn hu (by omega) (by omega) _ hh.out).mono ?_; rintro e w' ⟨rfl, nn, rfl⟩
      go_wp2_with fail
      refine (up.out _).mono ?_; rintro e w' ⟨rfl, rfl⟩
      go_wp2_with fail
      go_ret2
      have e1 := congrArg Prod.fst hN''.out; have e2 := congrArg Prod.snd hN''.out; simp only at e1 e2; subst e1; subst e2
      exact ⟨by simp, nn, rfl⟩
  · simp only [if_true] at hN'
    by_cases q2 : (Q : Int) ≤ 17592186044415
    · rw [if_neg (by omega)] at hN'
      have hN'' := Lib.hid hN'
      clear hN hN'
      go_enter Try.func13, Try.ntmps13
      go_wp2_with fail
      refine (rvalid_yes _ _ (by omega) (by omega)).mono ?_; rintro e w' ⟨rfl, rfl⟩
      go_wp2_with fail
      refine (divide_yes n num den Q R hQ hR hn hu (by omega) (by omega) _ hh.out).mono ?_; rintro e w' ⟨rfl, nn, rfl⟩
      go_wp2_with fail
      refine (up.out _).mono ?_; rintro e w' ⟨rfl, rfl⟩
      go_upto_region 15 with fail
      generalize hK : (Q : Int) + 1 = K
      have k1 : K ≤ 17592186044416 := by omega
      have k2 : 0 ≤ K := by omega
      have k3 : K ≤ 35184372088833 := by omega
      have hK' := Lib.hid hK
      clear hK
      go_wp2_with fail
      go_ret2
      have e1 := congrArg Prod.fst hN''.out; have e2 := congrArg Prod.snd hN''.out; simp only at e1 e2; subst e1; subst e2
      exact ⟨by simp [← hK'.out], nn, rfl⟩
    · rw [if_pos (by omega)] at hN'
      have hN'' := Lib.hid hN'
      have q4 : 17592186044416 ≤ (Q : Int) := by omega
      clear hN hN' q2
      go_enter Try.func13, Try.ntmps13
      go_wp2_with fail
      refine (rvalid_yes _ _ (by omega) (by omega)).mono ?_; rintro e w' ⟨rfl, rfl⟩
      go_wp2_with fail
      refine (divide_yes n num den Q R hQ hR hn hu (by omega) (by omega) _ hh.out).mono ?_; rintro e w' ⟨rfl, nn, rfl⟩
      go_wp2_with fail
      refine (up.out _).mono ?_; rintro e w' ⟨rfl, rfl⟩
      go_upto_region 15 with fail
      generalize hK : (Q : Int) + 1 = K
      have k1 : 17592186044417 ≤ K := by omega
      have k2 : 0 ≤ K := by omega
      have k3 : K ≤ 35184372088833 := by omega
      have hK' := Lib.hid hK
      clear hK
      go_wp2_with fail
      go_ret2
      have e1 := congrArg Prod.fst hN''.out; have e2 := congrArg Prod.snd hN''.out; simp only at e1 e2; subst e1; subst e2
      exact ⟨by simp [← hK'.out], nn, rfl⟩

set_option maxRecDepth 100000 in
set_option maxHeartbeats 400000 in
theorem rmd_neg_over (n num den : Nat) (mode : Int) (w : World) (m1 : 1 ≤ mode) (m2 : mode ≤ 5)
    (hn0 : 1 ≤ n) (hn : n ≤ 17592186044416) (hu : num ≤ 17592186044416) (hd0 : 1 ≤ den) (hd : den ≤ 17592186044416) (hh : Hid (35184372088832 < n * num / den)) :
    Calls Try.prog 13 #[.int .i64 (-(n : Int)), .int .i64 num, .int .i64 den, .int .i64 mode] w fun e w' => e = .returned (.tuple #[.int .i64 0, .int .i64 3]) ∧ Dr w w' := by
  have t1 : decide (mode < 1) = false := by simp; omega
  have t2 : decide (5 < mode) = false := by simp; omega
  have t3 : decide ((num : Int) < 0) = false := by simp
  have t4 : decide (17592186044416 < (num : Int)) = false := by simp; omega
  have t6 : decide ((den : Int) < 0) = false := by simp
  have t7 : decide (17592186044416 < (den : Int)) = false := by simp; omega
  have z0 : ((den : Int) == 0) = false := by simp; omega
  go_enter Try.func13, Try.ntmps13
  go_wp2_with fail
  refine (rvalid_yes _ _ (by omega) (by omega)).mono ?_; rintro e w' ⟨rfl, rfl⟩
  go_wp2_with fail
  refine (divide_no n num den hn hu (by omega) (by omega) _ hh.out).mono ?_; rintro e w' ⟨rfl, nn, rfl⟩
  go_wp2_with fail
  go_ret2
  exact ⟨rfl, nn, rfl⟩

set_option maxRecDepth 100000 in
set_option maxHeartbeats 400000 in
theorem rmd_neg_main (n num den : Nat) (mode : Int) (Q R : Nat) (hQ : Hid (n * num / den = Q)) (hR : Hid (n * num % den = R)) (w : World) (m1 : 1 ≤ mode) (m2 : mode ≤ 5)
    (hn0 : 1 ≤ n) (hn : n ≤ 17592186044416) (hu : num ≤ 17592186044416) (hd0 : 1 ≤ den) (hd : den ≤ 17592186044416) (hh : Hid (n * num / den ≤ 35184372088832)) (hq : (Q : Int) ≤ 35184372088832) (hr : R < den)
    (N E : Int) (hN : Hid ((if 17592186044416 < kk Q R den mode true then ((0 : Int), (3 : Int)) else (-kk Q R den mode true, 0)) = (N, E))) :
    Calls Try.prog 13 #[.int .i64 (-(n : Int)), .int .i64 num, .int .i64 den, .int .i64 mode] w fun e w' => e = .returned (.tuple #[.int .i64 N, .int .i64 E]) ∧ Dr w w' := by
  have t1 : decide (mode < 1) = false := by simp; omega
  have t2 : decide (5 < mode) = false := by simp; omega
  have t3 : decide ((num : Int) < 0) = false := by simp
  have t4 : decide (17592186044416 < (num : Int)) = false := by simp; omega
  have t6 : decide ((den : Int) < 0) = false := by simp
  have t7 : decide (17592186044416 < (den : Int)) = false := by simp; omega
  have z0 : ((den : Int) == 0) = false := by simp; omega
  have up0 := fun w => up_any (Q : Int) (R : Int) (den : Int) mode true w (by omega) (by omega) (by omega) (by omega) (by omega)
  have hN' := hN.out
  unfold kk at hN'
  generalize upB (Q : Int) (R : Int) (den : Int) mode true = b at up0 hN'
  have up := Lib.hid up0
  clear up0
  cases b
  · simp only [Bool.false_eq_true, if_false] at hN'
    by_cases q1 : (Q : Int) ≤ 17592186044416
    · rw [if_neg (by omega)] at hN'
      have hN'' := Lib.hid hN'
      clear hN hN'
      go_enter Try.func13, Try.ntmps13
      go_wp2_with fail
      refine (rvalid_yes _ _ (by omega) (by omega)).mono ?_; rintro e w' ⟨rfl, rfl⟩
      go_wp2_with fail
      refine (divide_yes n num den Q R hQ hR hn hu (by omega) (by omega) _ hh.out).mono ?_; rintro e w' ⟨rfl, nn, rfl⟩
      go_wp2_with fail
      refine (up.out _).mono ?_; rintro e w' ⟨rfl, rfl⟩
      go_wp2_with fail
      go_ret2
      have e1 := congrArg Prod.fst hN''.out; have e2 := congrArg Prod.snd hN''.out; simp only at e1 e2; subst e1; subst e2
      exact ⟨by simp, nn, rfl⟩
    · rw [if_pos (by omega)] at hN'
      have hN'' := Lib.hid hN'
      have q4 : 17592186044417 ≤ (Q : Int) := by omega
      clear hN hN' q1
      go_enter Try.func13, Try.ntmps13
      go_wp2_with fail
      refine (rvalid_yes _ _ (by omega) (by omega)).mono ?_; rintro e w' ⟨rfl, rfl⟩
      go_wp2_with fail
      refine (divide_yes n num den Q R hQ hR hn hu (by omega) (by omega) _ hh.out).mono ?_; rintro e w' ⟨rfl, nn, rfl⟩
      go_wp2_with fail
      refine (up.out _).mono ?_; rintro e w' ⟨rfl, rfl⟩
      go_wp2_with fail
      go_ret2
      have e1 := congrArg Prod.fst hN''.out; have e2 := congrArg Prod.snd hN''.out; simp only at e1 e2; subst e1; subst e2
      exact ⟨by simp, nn, rfl⟩
  · simp only [if_true] at hN'
    by_cases q2 : (Q : Int) ≤ 17592186044415
    · rw [if_neg (by omega)] at hN'
      have hN'' := Lib.hid hN'
      clear hN hN'
      go_enter Try.func13, Try.ntmps13
      go_wp2_with fail
      refine (rvalid_yes _ _ (by omega) (by omega)).mono ?_; rintro e w' ⟨rfl, rfl⟩
      go_wp2_with fail
      refine (divide_yes n num den Q R hQ hR hn hu (by omega) (by omega) _ hh.out).mono ?_; rintro e w' ⟨rfl, nn, rfl⟩
      go_wp2_with fail
      refine (up.out _).mono ?_; rintro e w' ⟨rfl, rfl⟩
      go_upto_region 15 with fail
      generalize hK : (Q : Int) + 1 = K
      have k1 : K ≤ 17592186044416 := by omega
      have k2 : 0 ≤ K := by omega
      have k3 : K ≤ 35184372088833 := by omega
      have hK' := Lib.hid hK
      clear hK
      go_wp2_with fail
      go_ret2
      have e1 := congrArg Prod.fst hN''.out; have e2 := congrArg Prod.snd hN''.out; simp only at e1 e2; subst e1; subst e2
      exact ⟨by simp [← hK'.out], nn, rfl⟩
    · rw [if_pos (by omega)] at hN'
      have hN'' := Lib.hid hN'
      have q4 : 17592186044416 ≤ (Q : Int) := by omega
      clear hN hN' q2
      go_enter Try.func13, Try.ntmps13
      go_wp2_with fail
      refine (rvalid_yes _ _ (by omega) (by omega)).mono ?_; rintro e w' ⟨rfl, rfl⟩
      go_wp2_with fail
      refine (divide_yes n num den Q R hQ hR hn hu (by omega) (by omega) _ hh.out).mono ?_; rintro e w' ⟨rfl, nn, rfl⟩
      go_wp2_with fail
      refine (up.out _).mono ?_; rintro e w' ⟨rfl, rfl⟩
      go_upto_region 15 with fail
      generalize hK : (Q : Int) + 1 = K
      have k1 : 17592186044417 ≤ K := by omega
      have k2 : 0 ≤ K := by omega
      have k3 : K ≤ 35184372088833 := by omega
      have hK' := Lib.hid hK
      clear hK
      go_wp2_with fail
      go_ret2
      have e1 := congrArg Prod.fst hN''.out; have e2 := congrArg Prod.snd hN''.out; simp only at e1 e2; subst e1; subst e2
      exact ⟨by simp [← hK'.out], nn, rfl⟩

theorem over_of (Q R : Nat) (den mode : Int) (neg : Bool) (h : 17592186044416 < Q) : 17592186044416 < kk Q R den mode neg := by
  unfold kk; split <;> omega

theorem md_any (a num den mode N E : Int) (hN : md a num den mode = (N, E)) (w : World) :
    Calls Try.prog 12 #[.int .i64 a, .int .i64 num, .int .i64 den, .int .i64 mode] w fun e w' => e = .returned (.tuple #[.int .i64 N, .int .i64 E]) ∧ Dr w w' := by
  unfold md at hN
  by_cases hm : mode < 1 ∨ 5 < mode
  · rw [if_pos hm] at hN
    obtain ⟨rfl, rfl⟩ := Prod.mk.inj hN
    exact (md_kind a num den mode w hm).mono fun e w' h => ⟨h.1, h.2 ▸ Dr.refl _⟩
  · rw [if_neg hm] at hN
    have m1 : 1 ≤ mode := by omega
    have m2 : mode ≤ 5 := by omega
    by_cases hb : mdBad a num den
    · rw [if_pos hb] at hN
      obtain ⟨rfl, rfl⟩ := Prod.mk.inj hN
      exact (md_range a num den mode w m1 m2 hb).mono fun e w' h => ⟨h.1, h.2 ▸ Dr.refl _⟩
    · rw [if_neg hb] at hN
      unfold mdBad at hb
      by_cases hd : den = 0
      · rw [if_pos hd] at hN
        obtain ⟨rfl, rfl⟩ := Prod.mk.inj hN
        exact (md_zero a num den mode w m1 m2 (by omega) (by omega) (by omega) (by omega) hd).mono fun e w' h => ⟨h.1, h.2 ▸ Dr.refl _⟩
      · rw [if_neg hd] at hN
        obtain ⟨u, rfl⟩ := Int.eq_ofNat_of_zero_le (show 0 ≤ num by omega)
        obtain ⟨d, rfl⟩ := Int.eq_ofNat_of_zero_le (show 0 ≤ den by omega)
        have d0 : 0 < d := by omega
        by_cases ha : a < 0
        · obtain ⟨n, rfl⟩ : ∃ n : Nat, a = -(n : Int) := ⟨a.natAbs, by omega⟩
          have hk : mdK (-(n : Int)) u d mode = kk (n * u / d) (n * u % d) d mode true := by
            unfold mdK kk; simp only [Int.natAbs_neg, Int.natAbs_natCast, Int.toNat_natCast, decide_eq_true ha]
          rw [hk, if_pos ha] at hN
          have hp : n * u / 18446744073709551616 * 18446744073709551616 + n * u % 18446744073709551616 = n * u := Nat.div_add_mod' _ _
          have hpu : n * u ≤ 17592186044416 * 17592186044416 := Nat.mul_le_mul (by omega) (by omega)
          have hlo : n * u % 18446744073709551616 < 18446744073709551616 := Nat.mod_lt _ (by decide)
          by_cases hh : d ≤ n * u / 18446744073709551616
          · have ho : 17592186044416 < kk (n * u / d) (n * u % d) d mode true := by
              have h1 : 18446744073709551616 ≤ n * u / d := by
                rw [Nat.le_div_iff_mul_le d0, Nat.mul_comm]
                have := Nat.mul_le_mul_right 18446744073709551616 hh
                exact Nat.le_trans this (Nat.div_mul_le_self _ _)
              exact over_of _ _ _ _ _ (by omega)
            rw [if_pos ho] at hN
            obtain ⟨rfl, rfl⟩ := Prod.mk.inj hN
            exact md_neg_over n u d mode _ _ (Lib.hid rfl) (Lib.hid rfl) w m1 m2 (by omega) (by omega) (by omega) d0 (by omega) hh (by omega) (by omega)
          · have hQ : (n * u / 18446744073709551616 * 18446744073709551616 + n * u % 18446744073709551616) / d = n * u / d := by rw [hp]
            have hR : (n * u / 18446744073709551616 * 18446744073709551616 + n * u % 18446744073709551616) % d = n * u % d := by rw [hp]
            have hq : n * u / d < 18446744073709551616 := by
              rw [Nat.div_lt_iff_lt_mul d0]
              clear hp hpu hlo hQ hR hN hk hb
              generalize n * u = x at *
              omega
            exact md_neg_main n u d mode _ _ _ _ (Lib.hid rfl) (Lib.hid rfl) (Lib.hid hQ) (Lib.hid hR) w m1 m2 (by omega) (by omega) (by omega) d0 (by omega) (Nat.lt_of_not_le hh) (by omega) (by omega) (Nat.mod_lt _ d0) N E (Lib.hid hN)
        · obtain ⟨n, rfl⟩ := Int.eq_ofNat_of_zero_le (show 0 ≤ a by omega)
          have hk : mdK (n : Int) u d mode = kk (n * u / d) (n * u % d) d mode false := by
            unfold mdK kk; simp only [Int.natAbs_natCast, Int.toNat_natCast, decide_eq_false ha]
          rw [hk, if_neg ha] at hN
          have hp : n * u / 18446744073709551616 * 18446744073709551616 + n * u % 18446744073709551616 = n * u := Nat.div_add_mod' _ _
          have hpu : n * u ≤ 17592186044416 * 17592186044416 := Nat.mul_le_mul (by omega) (by omega)
          have hlo : n * u % 18446744073709551616 < 18446744073709551616 := Nat.mod_lt _ (by decide)
          by_cases hh : d ≤ n * u / 18446744073709551616
          · have ho : 17592186044416 < kk (n * u / d) (n * u % d) d mode false := by
              have h1 : 18446744073709551616 ≤ n * u / d := by
                rw [Nat.le_div_iff_mul_le d0, Nat.mul_comm]
                have := Nat.mul_le_mul_right 18446744073709551616 hh
                exact Nat.le_trans this (Nat.div_mul_le_self _ _)
              exact over_of _ _ _ _ _ (by omega)
            rw [if_pos ho] at hN
            obtain ⟨rfl, rfl⟩ := Prod.mk.inj hN
            exact md_pos_over n u d mode _ _ (Lib.hid rfl) (Lib.hid rfl) w m1 m2 (by omega) (by omega) (by omega) d0 (by omega) hh (by omega) (by omega)
          · have hQ : (n * u / 18446744073709551616 * 18446744073709551616 + n * u % 18446744073709551616) / d = n * u / d := by rw [hp]
            have hR : (n * u / 18446744073709551616 * 18446744073709551616 + n * u % 18446744073709551616) % d = n * u % d := by rw [hp]
            have hq : n * u / d < 18446744073709551616 := by
              rw [Nat.div_lt_iff_lt_mul d0]
              clear hp hpu hlo hQ hR hN hk hb
              generalize n * u = x at *
              omega
            exact md_pos_main n u d mode _ _ _ _ (Lib.hid rfl) (Lib.hid rfl) (Lib.hid hQ) (Lib.hid hR) w m1 m2 (by omega) (by omega) (by omega) d0 (by omega) (Nat.lt_of_not_le hh) (by omega) (by omega) (Nat.mod_lt _ d0) N E (Lib.hid hN)

theorem rmd_any (a num den mode N E : Int) (hN : md a num den mode = (N, E)) (w : World) :
    Calls Try.prog 13 #[.int .i64 a, .int .i64 num, .int .i64 den, .int .i64 mode] w fun e w' => e = .returned (.tuple #[.int .i64 N, .int .i64 E]) ∧ Dr w w' := by
  unfold md at hN
  by_cases hm : mode < 1 ∨ 5 < mode
  · rw [if_pos hm] at hN
    obtain ⟨rfl, rfl⟩ := Prod.mk.inj hN
    exact (rmd_kind a num den mode w hm).mono fun e w' h => ⟨h.1, h.2 ▸ Dr.refl _⟩
  · rw [if_neg hm] at hN
    have m1 : 1 ≤ mode := by omega
    have m2 : mode ≤ 5 := by omega
    by_cases hb : mdBad a num den
    · rw [if_pos hb] at hN
      obtain ⟨rfl, rfl⟩ := Prod.mk.inj hN
      exact (rmd_range a num den mode w m1 m2 hb).mono fun e w' h => ⟨h.1, h.2 ▸ Dr.refl _⟩
    · rw [if_neg hb] at hN
      unfold mdBad at hb
      by_cases hd : den = 0
      · rw [if_pos hd] at hN
        obtain ⟨rfl, rfl⟩ := Prod.mk.inj hN
        exact (rmd_zero a num den mode w m1 m2 (by omega) (by omega) (by omega) (by omega) hd).mono fun e w' h => ⟨h.1, h.2 ▸ Dr.refl _⟩
      · rw [if_neg hd] at hN
        obtain ⟨u, rfl⟩ := Int.eq_ofNat_of_zero_le (show 0 ≤ num by omega)
        obtain ⟨d, rfl⟩ := Int.eq_ofNat_of_zero_le (show 0 ≤ den by omega)
        have d0 : 0 < d := by omega
        by_cases ha : a < 0
        · obtain ⟨n, rfl⟩ : ∃ n : Nat, a = -(n : Int) := ⟨a.natAbs, by omega⟩
          have hk : mdK (-(n : Int)) u d mode = kk (n * u / d) (n * u % d) d mode true := by
            unfold mdK kk; simp only [Int.natAbs_neg, Int.natAbs_natCast, Int.toNat_natCast, decide_eq_true ha]
          rw [hk, if_pos ha] at hN
          by_cases hq : 35184372088832 < n * u / d
          · have ho := over_of (n * u / d) (n * u % d) d mode true (by omega)
            rw [if_pos ho] at hN
            obtain ⟨rfl, rfl⟩ := Prod.mk.inj hN
            exact rmd_neg_over n u d mode w m1 m2 (by omega) (by omega) (by omega) d0 (by omega) (Lib.hid hq)
          · exact rmd_neg_main n u d mode _ _ (Lib.hid rfl) (Lib.hid rfl) w m1 m2 (by omega) (by omega) (by omega) d0 (by omega) (Lib.hid (Nat.le_of_not_lt hq)) (Int.ofNat_le.2 (Nat.le_of_not_lt hq)) (Nat.mod_lt _ d0) N E (Lib.hid hN)
        · obtain ⟨n, rfl⟩ := Int.eq_ofNat_of_zero_le (show 0 ≤ a by omega)
          have hk : mdK (n : Int) u d mode = kk (n * u / d) (n * u % d) d mode false := by
            unfold mdK kk; simp only [Int.natAbs_natCast, Int.toNat_natCast, decide_eq_false ha]
          rw [hk, if_neg ha] at hN
          by_cases hq : 35184372088832 < n * u / d
          · have ho := over_of (n * u / d) (n * u % d) d mode false (by omega)
            rw [if_pos ho] at hN
            obtain ⟨rfl, rfl⟩ := Prod.mk.inj hN
            exact rmd_pos_over n u d mode w m1 m2 (by omega) (by omega) (by omega) d0 (by omega) (Lib.hid hq)
          · exact rmd_pos_main n u d mode _ _ (Lib.hid rfl) (Lib.hid rfl) w m1 m2 (by omega) (by omega) (by omega) d0 (by omega) (Lib.hid (Nat.le_of_not_lt hq)) (Int.ofNat_le.2 (Nat.le_of_not_lt hq)) (Nat.mod_lt _ d0) N E (Lib.hid hN)
end Go.Proofs.Ytgknkkapenggkaa.Amt
