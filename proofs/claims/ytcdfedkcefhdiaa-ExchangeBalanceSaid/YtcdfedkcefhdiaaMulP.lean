/- MulDiv of package amount: the plain function md. -/
import Derived.Test.YtcdfedkcefhdiaaMulDiv
namespace Go.Proofs.Ytcdfedkcefhdiaa.Amt
open Go.RowKit Go.Lib Go.Proofs.Ytcdfedkcefhdiaa.Bas
set_option linter.unusedVariables false

/-- The quotient's absolute value, rounded. -/
def mdK (a num den mode : Int) : Int :=
  if upB ((a.natAbs * num.toNat / den.toNat : Nat) : Int) ((a.natAbs * num.toNat % den.toNat : Nat) : Int) den mode (decide (a < 0)) = true then ((a.natAbs * num.toNat / den.toNat : Nat) : Int) + 1 else ((a.natAbs * num.toNat / den.toNat : Nat) : Int)

def mdBad (a num den : Int) : Prop := (a < -17592186044416 ∨ 17592186044416 < a) ∨ (num < 0 ∨ 17592186044416 < num) ∨ (den < 0 ∨ 17592186044416 < den)
instance (a num den : Int) : Decidable (mdBad a num den) := by unfold mdBad; infer_instance
def md (a num den mode : Int) : Int × Int :=
  if mode < 1 ∨ 5 < mode then (0, 11) else if mdBad a num den then (0, 1) else if den = 0 then (0, 2)
  else if 17592186044416 < mdK a num den mode then (0, 3) else (if a < 0 then -mdK a num den mode else mdK a num den mode, 0)

theorem away_any (q r den mode s : Int) (neg : Bool) (w : World) (h0 : 0 ≤ q) (h1 : q ≤ 18446744073709551615) (h2 : 0 ≤ r) (h3 : r < den) (h4 : den ≤ 4503599627370496) (hs : s = if neg then -1 else 1) :
    Calls Try.prog 50 #[.int .i64 mode, .int .i64 s, .int .u64 q, .int .u64 r, .int .u64 den] w fun e w' => e = .returned (.bool (upB q r den mode neg)) ∧ w = w' := by
  unfold upB
  have z : (r == 0) = decide (r = 0) := rfl
  by_cases hr : r = 0
  · subst hr
    have c0 : (den == 0) = false := by simp; omega
    have c1 : decide (den < 0) = false := by simp; omega
    have c2 : decide (den ≤ 0) = false := by simp; omega
    have c3 : decide ((0 : Int) = den) = false := by simp; omega
    go_enter Try.func50, Try.ntmps50
    go_wp2
    all_goals (go_ret; exact ⟨by simp [*], rfl⟩)
  · have z1 : (r == 0) = false := by simp [hr]
    have z2 : decide (0 < r) = true := by simp; omega
    clear z
    by_cases m2 : mode = 2
    · subst m2
      cases neg
      all_goals
        simp only [if_true, Bool.false_eq_true, if_false] at hs
        subst hs
        go_enter Try.func50, Try.ntmps50
        go_wp2
        all_goals (go_ret; exact ⟨by simp [*], rfl⟩)
    · by_cases m3 : mode = 3
      · subst m3
        cases neg
        all_goals
          simp only [if_true, Bool.false_eq_true, if_false] at hs
          subst hs
          go_enter Try.func50, Try.ntmps50
          go_wp2
          all_goals (go_ret; exact ⟨by simp [*], rfl⟩)
      · by_cases m4 : mode = 4
        · subst m4
          go_enter Try.func50, Try.ntmps50
          go_wp2
          all_goals (go_ret; exact ⟨by simp, rfl⟩)
        · by_cases m5 : mode = 5
          · subst m5
            by_cases hh : 2 * r = den
            · have x1 : (2 * r == den) = true := by simp [hh]
              have x2 : decide (den < 2 * r) = false := by simp; omega
              have x3 : decide (2 * r = den) = true := by simp [hh]
              clear hh
              go_enter Try.func50, Try.ntmps50
              go_wp2
              all_goals (go_ret; exact ⟨by simp [*], rfl⟩)
            · have x1 : (2 * r == den) = false := by simp [hh]
              have x3 : decide (2 * r = den) = false := by simp [hh]
              have x4 : decide (den ≤ 2 * r) = decide (den < 2 * r) := by rw [decide_eq_decide]; omega
              clear hh
              go_enter Try.func50, Try.ntmps50
              go_wp2
              all_goals (go_ret; exact ⟨by simp [*], rfl⟩)
          · have n2 : (mode == 2) = false := by simp [m2]
            have n3 : (mode == 3) = false := by simp [m3]
            have n4 : (mode == 4) = false := by simp [m4]
            have n5 : (mode == 5) = false := by simp [m5]
            rw [if_neg m2, if_neg m3, if_neg m4, if_neg m5]
            clear m2 m3 m4 m5
            go_enter Try.func50, Try.ntmps50
            go_wp2
            all_goals (go_ret; exact ⟨rfl, rfl⟩)

theorem md_kind (a num den mode : Int) (w : World) (h : mode < 1 ∨ 5 < mode) : Calls Try.prog 43 #[.int .i64 a, .int .i64 num, .int .i64 den, .int .i64 mode] w fun e w' => e = .returned (.tuple #[.int .i64 0, .int .i64 11]) ∧ w = w' := by
  rcases h with h | h
  all_goals
    go_enter Try.func43, Try.ntmps43
    go_wp2_with fail
    all_goals (go_ret2; exact ⟨rfl, rfl⟩)

theorem md_range (a num den mode : Int) (w : World) (h1 : 1 ≤ mode) (h2 : mode ≤ 5) (h : mdBad a num den) : Calls Try.prog 43 #[.int .i64 a, .int .i64 num, .int .i64 den, .int .i64 mode] w fun e w' => e = .returned (.tuple #[.int .i64 0, .int .i64 1]) ∧ w = w' := by
  have t1 : decide (mode < 1) = false := by simp; omega
  have t2 : decide (5 < mode) = false := by simp; omega
  unfold mdBad at h
  by_cases ha : a < -17592186044416 ∨ 17592186044416 < a
  · clear h
    go_enter Try.func43, Try.ntmps43
    go_wp2_with fail
    refine (valid_no _ _ ha).mono ?_; rintro e w' ⟨rfl, rfl⟩
    go_wp2_with fail
    all_goals (go_ret2; exact ⟨rfl, rfl⟩)
  · have a1 : -17592186044416 ≤ a := by omega
    have a2 : a ≤ 17592186044416 := by omega
    by_cases hn : num < 0 ∨ 17592186044416 < num
    · clear h ha
      go_enter Try.func43, Try.ntmps43
      go_wp2_with fail
      refine (valid_yes _ _ a1 a2).mono ?_; rintro e w' ⟨rfl, rfl⟩
      go_wp2_with fail
      refine (factor_no _ _ hn).mono ?_; rintro e w' ⟨rfl, rfl⟩
      go_wp2_with fail
      all_goals (go_ret2; exact ⟨rfl, rfl⟩)
    · have n1 : 0 ≤ num := by omega
      have n2 : num ≤ 17592186044416 := by omega
      have hd : den < 0 ∨ 17592186044416 < den := by omega
      clear h ha hn
      go_enter Try.func43, Try.ntmps43
      go_wp2_with fail
      refine (valid_yes _ _ a1 a2).mono ?_; rintro e w' ⟨rfl, rfl⟩
      go_wp2_with fail
      refine (factor_yes _ _ n1 n2).mono ?_; rintro e w' ⟨rfl, rfl⟩
      go_wp2_with fail
      refine (factor_no _ _ hd).mono ?_; rintro e w' ⟨rfl, rfl⟩
      go_wp2_with fail
      all_goals (go_ret2; exact ⟨rfl, rfl⟩)

theorem md_zero (a num den mode : Int) (w : World) (h1 : 1 ≤ mode) (h2 : mode ≤ 5) (a1 : -17592186044416 ≤ a) (a2 : a ≤ 17592186044416) (n1 : 0 ≤ num) (n2 : num ≤ 17592186044416) (hd : den = 0) : Calls Try.prog 43 #[.int .i64 a, .int .i64 num, .int .i64 den, .int .i64 mode] w fun e w' => e = .returned (.tuple #[.int .i64 0, .int .i64 2]) ∧ w = w' := by
  have t1 : decide (mode < 1) = false := by simp; omega
  have t2 : decide (5 < mode) = false := by simp; omega
  subst hd
  go_enter Try.func43, Try.ntmps43
  go_wp2_with fail
  refine (valid_yes _ _ a1 a2).mono ?_; rintro e w' ⟨rfl, rfl⟩
  go_wp2_with fail
  refine (factor_yes _ _ n1 n2).mono ?_; rintro e w' ⟨rfl, rfl⟩
  go_wp2_with fail
  refine (factor_yes _ _ (by omega) (by omega)).mono ?_; rintro e w' ⟨rfl, rfl⟩
  go_wp2_with fail
  all_goals (go_ret2; exact ⟨rfl, rfl⟩)

theorem div64_var (hi lo y Q R : Nat) (hQ : Hid ((hi * 18446744073709551616 + lo) / y = Q)) (hR : Hid ((hi * 18446744073709551616 + lo) % y = R)) (hh : hi < y) (hl : lo < 18446744073709551616) (hy : y ≤ 17592186044416) (w : World) :
    Calls Try.prog 49 #[.int .u64 hi, .int .u64 lo, .int .u64 y] w fun e w' => e = .returned (.tuple #[.int .u64 (Q : Int), .int .u64 (R : Int)]) ∧ Dr w w' :=
  (div64_any hi lo y hh hl hy w).mono fun e w' h => by rw [hQ.out, hR.out] at h; exact h

theorem mul64_var (x y hi lo : Nat) (h1 : Hid (x * y / 18446744073709551616 = hi)) (h2 : Hid (x * y % 18446744073709551616 = lo)) (hx : x < 18446744073709551616) (hy : y < 18446744073709551616) (w : World) :
    Calls Try.prog 48 #[.int .u64 x, .int .u64 y] w fun e w' => e = .returned (.tuple #[.int .u64 (hi : Int), .int .u64 (lo : Int)]) ∧ w = w' :=
  (mul64_any x y hx hy w).mono fun e w' h => by rw [h1.out, h2.out] at h; exact h

/-- What the five modes make of a quotient: one more or not. -/
def kk (Q R : Nat) (den mode : Int) (neg : Bool) : Int := if upB Q R den mode neg = true then (Q : Int) + 1 else Q

set_option maxRecDepth 100000 in
set_option maxHeartbeats 400000 in
theorem md_pos_over (n num den : Nat) (mode : Int) (hi lo : Nat) (h1 : Hid (n * num / 18446744073709551616 = hi)) (h2 : Hid (n * num % 18446744073709551616 = lo)) (w : World) (m1 : 1 ≤ mode) (m2 : mode ≤ 5)
    (hn0 : 0 ≤ n) (hn : n ≤ 17592186044416) (hu : num ≤ 17592186044416) (hd0 : 1 ≤ den) (hd : den ≤ 17592186044416) (hh : den ≤ hi) (hh' : (hi : Int) ≤ 18446744073709551615) (hlo : (lo : Int) ≤ 18446744073709551615) :
    Calls Try.prog 43 #[.int .i64 (n : Int), .int .i64 num, .int .i64 den, .int .i64 mode] w fun e w' => e = .returned (.tuple #[.int .i64 0, .int .i64 3]) ∧ Dr w w' := by
  have t1 : decide (mode < 1) = false := by simp; omega
  have t2 : decide (5 < mode) = false := by simp; omega
  have z0 : ((den : Int) == 0) = false := by simp; omega
  go_enter Try.func43, Try.ntmps43
  go_wp2_with fail
  refine (valid_yes _ _ (by omega) (by omega)).mono ?_; rintro e w' ⟨rfl, rfl⟩
  go_wp2_with fail
  refine (factor_yes _ _ (by omega) (by omega)).mono ?_; rintro e w' ⟨rfl, rfl⟩
  go_wp2_with fail
  refine (factor_yes _ _ (by omega) (by omega)).mono ?_; rintro e w' ⟨rfl, rfl⟩
  go_wp2_with fail
  refine (mul64_var n num hi lo h1 h2 (by omega) (by omega) _).mono ?_; rintro e w' ⟨rfl, rfl⟩
  go_wp2_with fail
  go_ret2
  exact ⟨rfl, Dr.refl _⟩

set_option maxRecDepth 100000 in
set_option maxHeartbeats 400000 in
theorem md_pos_main (n num den : Nat) (mode : Int) (hi lo Q R : Nat) (h1 : Hid (n * num / 18446744073709551616 = hi)) (h2 : Hid (n * num % 18446744073709551616 = lo)) (hQ : Hid ((hi * 18446744073709551616 + lo) / den = Q)) (hR : Hid ((hi * 18446744073709551616 + lo) % den = R)) (w : World) (m1 : 1 ≤ mode) (m2 : mode ≤ 5)
    (hn0 : 0 ≤ n) (hn : n ≤ 17592186044416) (hu : num ≤ 17592186044416) (hd0 : 1 ≤ den) (hd : den ≤ 17592186044416) (hh : hi < den) (hlo : (lo : Int) ≤ 18446744073709551615) (hq : (Q : Int) ≤ 18446744073709551615) (hr : R < den)
    (N E : Int) (hN : Hid ((if 17592186044416 < kk Q R den mode false then ((0 : Int), (3 : Int)) else (kk Q R den mode false, 0)) = (N, E))) :
    Calls Try.prog 43 #[.int .i64 (n : Int), .int .i64 num, .int .i64 den, .int .i64 mode] w fun e w' => e = .returned (.tuple #[.int .i64 N, .int .i64 E]) ∧ Dr w w' := by
  have t1 : decide (mode < 1) = false := by simp; omega
  have t2 : decide (5 < mode) = false := by simp; omega
  have z0 : ((den : Int) == 0) = false := by simp; omega
  have up0 := fun w => away_any (Q : Int) (R : Int) (den : Int) mode (1) false w (by omega) (by omega) (by omega) (by omega) (by omega) rfl
  have hN' := hN.out
  unfold kk at hN'
  generalize upB (Q : Int) (R : Int) (den : Int) mode false = b at up0 hN'
  have up := Lib.hid up0
  clear up0
  by_cases q1 : (Q : Int) ≤ 17592186044416
  · cases b
    · have t5 : decide ((Q : Int) ≤ 17592186044416) = true := by simp only [decide_eq_true_iff]; exact q1
      simp only [Bool.false_eq_true, if_false] at hN'
      rw [if_neg (by omega)] at hN'
      have hN'' := Lib.hid hN'
      clear hN hN'
      go_enter Try.func43, Try.ntmps43
      go_wp2_with fail
      refine (valid_yes _ _ (by omega) (by omega)).mono ?_; rintro e w' ⟨rfl, rfl⟩
      go_wp2_with fail
      refine (factor_yes _ _ (by omega) (by omega)).mono ?_; rintro e w' ⟨rfl, rfl⟩
      go_wp2_with fail
      refine (factor_yes _ _ (by omega) (by omega)).mono ?_; rintro e w' ⟨rfl, rfl⟩
      go_wp2_with fail
      refine (mul64_var n num hi lo h1 h2 (by omega) (by omega) _).mono ?_; rintro e w' ⟨rfl, rfl⟩
      go_wp2_with fail
      refine (div64_var hi lo den Q R hQ hR hh (by omega) hd _).mono ?_; rintro e w' ⟨rfl, nn, rfl⟩
      go_wp2_with fail
      refine (up.out _).mono ?_; rintro e w' ⟨rfl, rfl⟩
      go_wp2_with fail
      go_ret2
      have e1 := congrArg Prod.fst hN''.out; have e2 := congrArg Prod.snd hN''.out; simp only at e1 e2; subst e1; subst e2
      exact ⟨by simp, nn, rfl⟩
    · have t5 : decide ((Q : Int) ≤ 17592186044416) = true := by simp only [decide_eq_true_iff]; exact q1
      simp only [if_true] at hN'
      by_cases q2 : (Q : Int) ≤ 17592186044415
      · rw [if_neg (by omega)] at hN'
        have hN'' := Lib.hid hN'
        clear hN hN'
        go_enter Try.func43, Try.ntmps43
        go_wp2_with fail
        refine (valid_yes _ _ (by omega) (by omega)).mono ?_; rintro e w' ⟨rfl, rfl⟩
        go_wp2_with fail
        refine (factor_yes _ _ (by omega) (by omega)).mono ?_; rintro e w' ⟨rfl, rfl⟩
        go_wp2_with fail
        refine (factor_yes _ _ (by omega) (by omega)).mono ?_; rintro e w' ⟨rfl, rfl⟩
        go_wp2_with fail
        refine (mul64_var n num hi lo h1 h2 (by omega) (by omega) _).mono ?_; rintro e w' ⟨rfl, rfl⟩
        go_wp2_with fail
        refine (div64_var hi lo den Q R hQ hR hh (by omega) hd _).mono ?_; rintro e w' ⟨rfl, nn, rfl⟩
        go_wp2_with fail
        refine (up.out _).mono ?_; rintro e w' ⟨rfl, rfl⟩
        go_upto_region 16 with fail
        generalize hK : (Q : Int) + 1 = K
        have k1 : K ≤ 17592186044416 := by omega
        have k2 : 0 ≤ K := by omega
        have k3 : K ≤ 17592186044417 := by omega
        have hK' := Lib.hid hK
        clear hK
        go_wp2_with fail
        go_ret2
        have e1 := congrArg Prod.fst hN''.out; have e2 := congrArg Prod.snd hN''.out; simp only at e1 e2; subst e1; subst e2
        exact ⟨by simp [← hK'.out], nn, rfl⟩
      · rw [if_pos (by omega)] at hN'
        have hN'' := Lib.hid hN'
        have q3 : 17592186044416 ≤ (Q : Int) := by omega
        clear hN hN' q2
        go_enter Try.func43, Try.ntmps43
        go_wp2_with fail
        refine (valid_yes _ _ (by omega) (by omega)).mono ?_; rintro e w' ⟨rfl, rfl⟩
        go_wp2_with fail
        refine (factor_yes _ _ (by omega) (by omega)).mono ?_; rintro e w' ⟨rfl, rfl⟩
        go_wp2_with fail
        refine (factor_yes _ _ (by omega) (by omega)).mono ?_; rintro e w' ⟨rfl, rfl⟩
        go_wp2_with fail
        refine (mul64_var n num hi lo h1 h2 (by omega) (by omega) _).mono ?_; rintro e w' ⟨rfl, rfl⟩
        go_wp2_with fail
        refine (div64_var hi lo den Q R hQ hR hh (by omega) hd _).mono ?_; rintro e w' ⟨rfl, nn, rfl⟩
        go_wp2_with fail
        refine (up.out _).mono ?_; rintro e w' ⟨rfl, rfl⟩
        go_upto_region 16 with fail
        generalize hK : (Q : Int) + 1 = K
        have k1 : 17592186044417 ≤ K := by omega
        have k2 : 0 ≤ K := by omega
        have k3 : K ≤ 17592186044417 := by omega
        have hK' := Lib.hid hK
        clear hK
        go_wp2_with fail
        go_ret2
        have e1 := congrArg Prod.fst hN''.out; have e2 := congrArg Prod.snd hN''.out; simp only at e1 e2; subst e1; subst e2
        exact ⟨by simp [← hK'.out], nn, rfl⟩
  · rw [if_pos (by cases b <;> simp <;> omega)] at hN'
    have hN'' := Lib.hid hN'
    have t5 : decide ((Q : Int) ≤ 17592186044416) = false := by simp only [decide_eq_false_iff_not]; exact q1
    have q4 : 17592186044417 ≤ (Q : Int) := by omega
    clear hN hN'
    go_enter Try.func43, Try.ntmps43
    go_wp2_with fail
    refine (valid_yes _ _ (by omega) (by omega)).mono ?_; rintro e w' ⟨rfl, rfl⟩
    go_wp2_with fail
    refine (factor_yes _ _ (by omega) (by omega)).mono ?_; rintro e w' ⟨rfl, rfl⟩
    go_wp2_with fail
    refine (factor_yes _ _ (by omega) (by omega)).mono ?_; rintro e w' ⟨rfl, rfl⟩
    go_wp2_with fail
    refine (mul64_var n num hi lo h1 h2 (by omega) (by omega) _).mono ?_; rintro e w' ⟨rfl, rfl⟩
    go_wp2_with fail
    refine (div64_var hi lo den Q R hQ hR hh (by omega) hd _).mono ?_; rintro e w' ⟨rfl, nn, rfl⟩
    go_wp2_with fail
    go_ret2
    have e1 := congrArg Prod.fst hN''.out; have e2 := congrArg Prod.snd hN''.out; simp only at e1 e2; subst e1; subst e2
    exact ⟨by simp, nn, rfl⟩

set_option maxRecDepth 100000 in
set_option maxHeartbeats 400000 in
theorem md_neg_over (n num den : Nat) (mode : Int) (hi lo : Nat) (h1 : Hid (n * num / 18446744073709551616 = hi)) (h2 : Hid (n * num % 18446744073709551616 = lo)) (w : World) (m1 : 1 ≤ mode) (m2 : mode ≤ 5)
    (hn0 : 1 ≤ n) (hn : n ≤ 17592186044416) (hu : num ≤ 17592186044416) (hd0 : 1 ≤ den) (hd : den ≤ 17592186044416) (hh : den ≤ hi) (hh' : (hi : Int) ≤ 18446744073709551615) (hlo : (lo : Int) ≤ 18446744073709551615) :
    Calls Try.prog 43 #[.int .i64 (-(n : Int)), .int .i64 num, .int .i64 den, .int .i64 mode] w fun e w' => e = .returned (.tuple #[.int .i64 0, .int .i64 3]) ∧ Dr w w' := by
  have t1 : decide (mode < 1) = false := by simp; omega
  have t2 : decide (5 < mode) = false := by simp; omega
  have z0 : ((den : Int) == 0) = false := by simp; omega
  go_enter Try.func43, Try.ntmps43
  go_wp2_with fail
  refine (valid_yes _ _ (by omega) (by omega)).mono ?_; rintro e w' ⟨rfl, rfl⟩
  go_wp2_with fail
  refine (factor_yes _ _ (by omega) (by omega)).mono ?_; rintro e w' ⟨rfl, rfl⟩
  go_wp2_with fail
  refine (factor_yes _ _ (by omega) (by omega)).mono ?_; rintro e w' ⟨rfl, rfl⟩
  go_wp2_with fail
  refine (mul64_var n num hi lo h1 h2 (by omega) (by omega) _).mono ?_; rintro e w' ⟨rfl, rfl⟩
  go_wp2_with fail
  go_ret2
  exact ⟨rfl, Dr.refl _⟩

set_option maxRecDepth 100000 in
set_option maxHeartbeats 400000 in
theorem md_neg_main (n num den : Nat) (mode : Int) (hi lo Q R : Nat) (h1 : Hid (n * num / 18446744073709551616 = hi)) (h2 : Hid (n * num % 18446744073709551616 = lo)) (hQ : Hid ((hi * 18446744073709551616 + lo) / den = Q)) (hR : Hid ((hi * 18446744073709551616 + lo) % den = R)) (w : World) (m1 : 1 ≤ mode) (m2 : mode ≤ 5)
    (hn0 : 1 ≤ n) (hn : n ≤ 17592186044416) (hu : num ≤ 17592186044416) (hd0 : 1 ≤ den) (hd : den ≤ 17592186044416) (hh : hi < den) (hlo : (lo : Int) ≤ 18446744073709551615) (hq : (Q : Int) ≤ 18446744073709551615) (hr : R < den)
    (N E : Int) (hN : Hid ((if 17592186044416 < kk Q R den mode true then ((0 : Int), (3 : Int)) else (-kk Q R den mode true, 0)) = (N, E))) :
    Calls Try.prog 43 #[.int .i64 (-(n : Int)), .int .i64 num, .int .i64 den, .int .i64 mode] w fun e w' => e = .returned (.tuple #[.int .i64 N, .int .i64 E]) ∧ Dr w w' := by
  have t1 : decide (mode < 1) = false := by simp; omega
  have t2 : decide (5 < mode) = false := by simp; omega
  have z0 : ((den : Int) == 0) = false := by simp; omega
  have up0 := fun w => away_any (Q : Int) (R : Int) (den : Int) mode (-1) true w (by omega) (by omega) (by omega) (by omega) (by omega) rfl
  have hN' := hN.out
  unfold kk at hN'
  generalize upB (Q : Int) (R : Int) (den : Int) mode true = b at up0 hN'
  have up := Lib.hid up0
  clear up0
  by_cases q1 : (Q : Int) ≤ 17592186044416
  · cases b
    · have t5 : decide ((Q : Int) ≤ 17592186044416) = true := by simp only [decide_eq_true_iff]; exact q1
      simp only [Bool.false_eq_true, if_false] at hN'
      rw [if_neg (by omega)] at hN'
      have hN'' := Lib.hid hN'
      clear hN hN'
      go_enter Try.func43, Try.ntmps43
      go_wp2_with fail
      refine (valid_yes _ _ (by omega) (by omega)).mono ?_; rintro e w' ⟨rfl, rfl⟩
      go_wp2_with fail
      refine (factor_yes _ _ (by omega) (by omega)).mono ?_; rintro e w' ⟨rfl, rfl⟩
      go_wp2_with fail
      refine (factor_yes _ _ (by omega) (by omega)).mono ?_; rintro e w' ⟨rfl, rfl⟩
      go_wp2_with fail
      refine (mul64_var n num hi lo h1 h2 (by omega) (by omega) _).mono ?_; rintro e w' ⟨rfl, rfl⟩
      go_wp2_with fail
      refine (div64_var hi lo den Q R hQ hR hh (by omega) hd _).mono ?_; rintro e w' ⟨rfl, nn, rfl⟩
      go_wp2_with fail
      refine (up.out _).mono ?_; rintro e w' ⟨rfl, rfl⟩
      go_wp2_with fail
      go_ret2
      have e1 := congrArg Prod.fst hN''.out; have e2 := congrArg Prod.snd hN''.out; simp only at e1 e2; subst e1; subst e2
      exact ⟨by simp, nn, rfl⟩
    · have t5 : decide ((Q : Int) ≤ 17592186044416) = true := by simp only [decide_eq_true_iff]; exact q1
      simp only [if_true] at hN'
      by_cases q2 : (Q : Int) ≤ 17592186044415
      · rw [if_neg (by omega)] at hN'
        have hN'' := Lib.hid hN'
        clear hN hN'
        go_enter Try.func43, Try.ntmps43
        go_wp2_with fail
        refine (valid_yes _ _ (by omega) (by omega)).mono ?_; rintro e w' ⟨rfl, rfl⟩
        go_wp2_with fail
        refine (factor_yes _ _ (by omega) (by omega)).mono ?_; rintro e w' ⟨rfl, rfl⟩
        go_wp2_with fail
        refine (factor_yes _ _ (by omega) (by omega)).mono ?_; rintro e w' ⟨rfl, rfl⟩
        go_wp2_with fail
        refine (mul64_var n num hi lo h1 h2 (by omega) (by omega) _).mono ?_; rintro e w' ⟨rfl, rfl⟩
        go_wp2_with fail
        refine (div64_var hi lo den Q R hQ hR hh (by omega) hd _).mono ?_; rintro e w' ⟨rfl, nn, rfl⟩
        go_wp2_with fail
        refine (up.out _).mono ?_; rintro e w' ⟨rfl, rfl⟩
        go_upto_region 16 with fail
        generalize hK : (Q : Int) + 1 = K
        have k1 : K ≤ 17592186044416 := by omega
        have k2 : 0 ≤ K := by omega
        have k3 : K ≤ 17592186044417 := by omega
        have hK' := Lib.hid hK
        clear hK
        go_wp2_with fail
        go_ret2
        have e1 := congrArg Prod.fst hN''.out; have e2 := congrArg Prod.snd hN''.out; simp only at e1 e2; subst e1; subst e2
        exact ⟨by simp [← hK'.out], nn, rfl⟩
      · rw [if_pos (by omega)] at hN'
        have hN'' := Lib.hid hN'
        have q3 : 17592186044416 ≤ (Q : Int) := by omega
        clear hN hN' q2
        go_enter Try.func43, Try.ntmps43
        go_wp2_with fail
        refine (valid_yes _ _ (by omega) (by omega)).mono ?_; rintro e w' ⟨rfl, rfl⟩
        go_wp2_with fail
        refine (factor_yes _ _ (by omega) (by omega)).mono ?_; rintro e w' ⟨rfl, rfl⟩
        go_wp2_with fail
        refine (factor_yes _ _ (by omega) (by omega)).mono ?_; rintro e w' ⟨rfl, rfl⟩
        go_wp2_with fail
        refine (mul64_var n num hi lo h1 h2 (by omega) (by omega) _).mono ?_; rintro e w' ⟨rfl, rfl⟩
        go_wp2_with fail
        refine (div64_var hi lo den Q R hQ hR hh (by omega) hd _).mono ?_; rintro e w' ⟨rfl, nn, rfl⟩
        go_wp2_with fail
        refine (up.out _).mono ?_; rintro e w' ⟨rfl, rfl⟩
        go_upto_region 16 with fail
        generalize hK : (Q : Int) + 1 = K
        have k1 : 17592186044417 ≤ K := by omega
        have k2 : 0 ≤ K := by omega
        have k3 : K ≤ 17592186044417 := by omega
        have hK' := Lib.hid hK
        clear hK
        go_wp2_with fail
        go_ret2
        have e1 := congrArg Prod.fst hN''.out; have e2 := congrArg Prod.snd hN''.out; simp only at e1 e2; subst e1; subst e2
        exact ⟨by simp [← hK'.out], nn, rfl⟩
  · rw [if_pos (by cases b <;> simp <;> omega)] at hN'
    have hN'' := Lib.hid hN'
    have t5 : decide ((Q : Int) ≤ 17592186044416) = false := by simp only [decide_eq_false_iff_not]; exact q1
    have q4 : 17592186044417 ≤ (Q : Int) := by omega
    clear hN hN'
    go_enter Try.func43, Try.ntmps43
    go_wp2_with fail
    refine (valid_yes _ _ (by omega) (by omega)).mono ?_; rintro e w' ⟨rfl, rfl⟩
    go_wp2_with fail
    refine (factor_yes _ _ (by omega) (by omega)).mono ?_; rintro e w' ⟨rfl, rfl⟩
    go_wp2_with fail
    refine (factor_yes _ _ (by omega) (by omega)).mono ?_; rintro e w' ⟨rfl, rfl⟩
    go_wp2_with fail
    refine (mul64_var n num hi lo h1 h2 (by omega) (by omega) _).mono ?_; rintro e w' ⟨rfl, rfl⟩
    go_wp2_with fail
    refine (div64_var hi lo den Q R hQ hR hh (by omega) hd _).mono ?_; rintro e w' ⟨rfl, nn, rfl⟩
    go_wp2_with fail
    go_ret2
    have e1 := congrArg Prod.fst hN''.out; have e2 := congrArg Prod.snd hN''.out; simp only at e1 e2; subst e1; subst e2
    exact ⟨by simp, nn, rfl⟩

theorem over_of (Q R : Nat) (den mode : Int) (neg : Bool) (h : 17592186044416 < Q) : 17592186044416 < kk Q R den mode neg := by
  unfold kk; split <;> omega

theorem md_any (a num den mode N E : Int) (hN : md a num den mode = (N, E)) (w : World) :
    Calls Try.prog 43 #[.int .i64 a, .int .i64 num, .int .i64 den, .int .i64 mode] w fun e w' => e = .returned (.tuple #[.int .i64 N, .int .i64 E]) ∧ Dr w w' := by
  unfold md at hN
  by_cases hm : mode < 1 ∨ 5 < mode
  · rw [if_pos hm] at hN
    obtain ⟨rfl, rfl⟩ := Prod.mk.inj hN
    exact (md_kind a num den mode w hm).mono fun e w' h => ⟨h.1, h.2 ▸ Dr.refl _⟩
  · rw [if_neg hm] at hN
    have m1 : 1 ≤ mode := by omega
    have m2 : mode ≤ 5 := by omega
    by_cases hb : mdBad a num den
    · rw [if_pos hb] at hN
      obtain ⟨rfl, rfl⟩ := Prod.mk.inj hN
      exact (md_range a num den mode w m1 m2 hb).mono fun e w' h => ⟨h.1, h.2 ▸ Dr.refl _⟩
    · rw [if_neg hb] at hN
      unfold mdBad at hb
      by_cases hd : den = 0
      · rw [if_pos hd] at hN
        obtain ⟨rfl, rfl⟩ := Prod.mk.inj hN
        exact (md_zero a num den mode w m1 m2 (by omega) (by omega) (by omega) (by omega) hd).mono fun e w' h => ⟨h.1, h.2 ▸ Dr.refl _⟩
      · rw [if_neg hd] at hN
        obtain ⟨u, rfl⟩ := Int.eq_ofNat_of_zero_le (show 0 ≤ num by omega)
        obtain ⟨d, rfl⟩ := Int.eq_ofNat_of_zero_le (show 0 ≤ den by omega)
        have d0 : 0 < d := by omega
        by_cases ha : a < 0
        · obtain ⟨n, rfl⟩ : ∃ n : Nat, a = -(n : Int) := ⟨a.natAbs, by omega⟩
          have hk : mdK (-(n : Int)) u d mode = kk (n * u / d) (n * u % d) d mode true := by
            unfold mdK kk; simp only [Int.natAbs_neg, Int.natAbs_natCast, Int.toNat_natCast, decide_eq_true ha]
          rw [hk, if_pos ha] at hN
          have hp : n * u / 18446744073709551616 * 18446744073709551616 + n * u % 18446744073709551616 = n * u := Nat.div_add_mod' _ _
          have hpu : n * u ≤ 17592186044416 * 17592186044416 := Nat.mul_le_mul (by omega) (by omega)
          have hlo : n * u % 18446744073709551616 < 18446744073709551616 := Nat.mod_lt _ (by decide)
          by_cases hh : d ≤ n * u / 18446744073709551616
          · have ho : 17592186044416 < kk (n * u / d) (n * u % d) d mode true := by
              have h1 : 18446744073709551616 ≤ n * u / d := by
                rw [Nat.le_div_iff_mul_le d0, Nat.mul_comm]
                have := Nat.mul_le_mul_right 18446744073709551616 hh
                exact Nat.le_trans this (Nat.div_mul_le_self _ _)
              exact over_of _ _ _ _ _ (by omega)
            rw [if_pos ho] at hN
            obtain ⟨rfl, rfl⟩ := Prod.mk.inj hN
            exact md_neg_over n u d mode _ _ (Lib.hid rfl) (Lib.hid rfl) w m1 m2 (by omega) (by omega) (by omega) d0 (by omega) hh (by omega) (by omega)
          · have hQ : (n * u / 18446744073709551616 * 18446744073709551616 + n * u % 18446744073709551616) / d = n * u / d := by rw [hp]
            have hR : (n * u / 18446744073709551616 * 18446744073709551616 + n * u % 18446744073709551616) % d = n * u % d := by rw [hp]
            have hq : n * u / d < 18446744073709551616 := by
              rw [Nat.div_lt_iff_lt_mul d0]
              clear hp hpu hlo hQ hR hN hk hb
              generalize n * u = x at *
              omega
            exact md_neg_main n u d mode _ _ _ _ (Lib.hid rfl) (Lib.hid rfl) (Lib.hid hQ) (Lib.hid hR) w m1 m2 (by omega) (by omega) (by omega) d0 (by omega) (Nat.lt_of_not_le hh) (by omega) (by omega) (Nat.mod_lt _ d0) N E (Lib.hid hN)
        · obtain ⟨n, rfl⟩ := Int.eq_ofNat_of_zero_le (show 0 ≤ a by omega)
          have hk : mdK (n : Int) u d mode = kk (n * u / d) (n * u % d) d mode false := by
            unfold mdK kk; simp only [Int.natAbs_natCast, Int.toNat_natCast, decide_eq_false ha]
          rw [hk, if_neg ha] at hN
          have hp : n * u / 18446744073709551616 * 18446744073709551616 + n * u % 18446744073709551616 = n * u := Nat.div_add_mod' _ _
          have hpu : n * u ≤ 17592186044416 * 17592186044416 := Nat.mul_le_mul (by omega) (by omega)
          have hlo : n * u % 18446744073709551616 < 18446744073709551616 := Nat.mod_lt _ (by decide)
          by_cases hh : d ≤ n * u / 18446744073709551616
          · have ho : 17592186044416 < kk (n * u / d) (n * u % d) d mode false := by
              have h1 : 18446744073709551616 ≤ n * u / d := by
                rw [Nat.le_div_iff_mul_le d0, Nat.mul_comm]
                have := Nat.mul_le_mul_right 18446744073709551616 hh
                exact Nat.le_trans this (Nat.div_mul_le_self _ _)
              exact over_of _ _ _ _ _ (by omega)
            rw [if_pos ho] at hN
            obtain ⟨rfl, rfl⟩ := Prod.mk.inj hN
            exact md_pos_over n u d mode _ _ (Lib.hid rfl) (Lib.hid rfl) w m1 m2 (by omega) (by omega) (by omega) d0 (by omega) hh (by omega) (by omega)
          · have hQ : (n * u / 18446744073709551616 * 18446744073709551616 + n * u % 18446744073709551616) / d = n * u / d := by rw [hp]
            have hR : (n * u / 18446744073709551616 * 18446744073709551616 + n * u % 18446744073709551616) % d = n * u % d := by rw [hp]
            have hq : n * u / d < 18446744073709551616 := by
              rw [Nat.div_lt_iff_lt_mul d0]
              clear hp hpu hlo hQ hR hN hk hb
              generalize n * u = x at *
              omega
            exact md_pos_main n u d mode _ _ _ _ (Lib.hid rfl) (Lib.hid rfl) (Lib.hid hQ) (Lib.hid hR) w m1 m2 (by omega) (by omega) (by omega) d0 (by omega) (Nat.lt_of_not_le hh) (by omega) (by omega) (Nat.mod_lt _ d0) N E (Lib.hid hN)

end Go.Proofs.Ytcdfedkcefhdiaa.Amt
