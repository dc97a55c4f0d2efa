/- The statements of package amount over integers: awake; the walks of AmountQuotient, AmountShare. -/
import Derived.Test.YtgknkkapenggkaaAmtMul2
import Derived.OpenShut
namespace Go.Proofs.Ytgknkkapenggkaa.Amt
open Go.RowKit Go.Lib
set_option linter.unusedVariables false

theorem md_example : md (-5) 1 2 4 = (-3, 0) := by decide
theorem awake_any (w : World) : Calls Try.prog 14 #[] w fun e w' => e = .returned (.bool true) ∧ Dr w w' := by
  have h1 := fun w => md_any (-5) 1 2 4 (-3) 0 md_example w
  have H1 := Lib.hid h1
  clear h1
  go_enter Try.func14, Try.ntmps14
  go_wp2_with fail
  refine (H1.out _).mono ?_; rintro e w' ⟨rfl, nn, rfl⟩
  go_wp2_with fail
  refine (valid_yes _ _ (by omega) (by omega)).mono ?_; rintro e w' ⟨rfl, rfl⟩
  go_wp2_with fail
  refine (valid_no _ _ (by omega)).mono ?_; rintro e w' ⟨rfl, rfl⟩
  go_wp2_with fail
  go_ret
  exact ⟨rfl, nn, rfl⟩

theorem wf_of (n : Int) (h1 : -9223372036854775808 ≤ n) (h2 : n ≤ 9223372036854775807) : (Lit.int .i64 n).wf = true := WalkArith.wf_i64 (by omega)

def cl (a : Int) : Int := if 17592186044416 < a then 17592186044416 else if a < -17592186044416 then -17592186044416 else a
theorem cl_bd (a : Int) : -17592186044416 ≤ cl a ∧ cl a ≤ 17592186044416 := by unfold cl; split <;> (try split) <;> omega
theorem rclamp_cl (a : Int) (w : World) : Calls Try.prog 10 #[.int .i64 a] w fun e w' => e = .returned (.int .i64 (cl a)) ∧ w = w' := rclamp_any a w

theorem quotient (a0 : Int) (a1 : Int) (a2 : Int) (a3 : Int) (a4 : Bool) (w0 : (Lit.int .i64 a0).wf = true) (w1 : (Lit.int .i64 a1).wf = true) (w2 : (Lit.int .i64 a2).wf = true) (w3 : (Lit.int .i64 a3).wf = true) (w : World) :
    Calls Try.prog 3 #[.int .i64 a0, .int .i64 a1, .int .i64 a2, .int .i64 a3, .bool a4] w fun e w' => e = .returned (.bool true) ∧ Grown w w' := by
  obtain ⟨b1, c1⟩ := bounds_i64 w1
  obtain ⟨b2, c2⟩ := bounds_i64 w2
  obtain ⟨b3, c3⟩ := bounds_i64 w3
  clear w0 w1 w2 w3
  cases a4
  · obtain ⟨N, E, hN⟩ : ∃ N E, md a0 a1 a2 a3 = (N, E) := ⟨_, _, rfl⟩
    have m1 := Lib.hid (md_any a0 a1 a2 a3 N E hN)
    have m2 := Lib.hid (rmd_any a0 a1 a2 a3 N E hN)
    clear hN
    go_enter Try.func3, Try.ntmps3
    go_wp2_with fail
    refine (m1.out _).mono ?_; rintro e w' ⟨rfl, n1, rfl⟩
    go_wp2_with fail
    refine (m2.out _).mono ?_; rintro e w' ⟨rfl, n2, rfl⟩
    go_wp2_with fail
    refine (awake_any _).mono ?_; rintro e w' ⟨rfl, n3, rfl⟩
    go_wp2_with fail
    go_ret
    exact ⟨rfl, by repeat (first | exact Grown.refl _ | apply Grown.drew)⟩
  · obtain ⟨N, E, hN⟩ : ∃ N E, md (cl a0) (wi a1 17592186044417) (wi a2 17592186044417) (wi a3 7) = (N, E) := ⟨_, _, rfl⟩
    have m1 := Lib.hid (md_any _ _ _ _ N E hN)
    have m2 := Lib.hid (rmd_any _ _ _ _ N E hN)
    clear hN
    go_enter Try.func3, Try.ntmps3
    go_wp2_with fail
    refine (rclamp_cl a0 _).mono ?_; rintro e w' ⟨rfl, rfl⟩
    go_wp2_with fail
    refine (within_any a1 _ _ (by omega) (by omega) (by omega) (by omega)).mono ?_; rintro e w' ⟨rfl, rfl⟩
    go_wp2_with fail
    refine (within_any a2 _ _ (by omega) (by omega) (by omega) (by omega)).mono ?_; rintro e w' ⟨rfl, rfl⟩
    go_wp2_with fail
    refine (within_any a3 _ _ (by omega) (by omega) (by omega) (by omega)).mono ?_; rintro e w' ⟨rfl, rfl⟩
    go_wp2_with fail
    refine (m1.out _).mono ?_; rintro e w' ⟨rfl, n1, rfl⟩
    go_wp2_with fail
    refine (m2.out _).mono ?_; rintro e w' ⟨rfl, n2, rfl⟩
    go_wp2_with fail
    refine (awake_any _).mono ?_; rintro e w' ⟨rfl, n3, rfl⟩
    go_wp2_with fail
    go_ret
    exact ⟨rfl, by repeat (first | exact Grown.refl _ | apply Grown.drew)⟩

theorem share_any (a m mode N E : Int) (hN : md a m 1000000 mode = (N, E)) (w : World) :
    Calls Try.prog 15 #[.int .i64 a, .int .i64 m, .int .i64 mode] w fun e w' => e = .returned (.tuple #[.int .i64 N, .int .i64 E]) ∧ Dr w w' := by
  have m1 := Lib.hid (md_any a m 1000000 mode N E hN)
  clear hN
  go_enter Try.func15, Try.ntmps15
  go_wp2_with fail
  refine (m1.out _).mono ?_; rintro e w' ⟨rfl, n1, rfl⟩
  go_wp2_with fail
  go_ret2
  exact ⟨rfl, n1, rfl⟩
theorem rshare_any (a m mode N E : Int) (hN : md a m 1000000 mode = (N, E)) (w : World) :
    Calls Try.prog 16 #[.int .i64 a, .int .i64 m, .int .i64 mode] w fun e w' => e = .returned (.tuple #[.int .i64 N, .int .i64 E]) ∧ Dr w w' := by
  have m1 := Lib.hid (rmd_any a m 1000000 mode N E hN)
  clear hN
  go_enter Try.func16, Try.ntmps16
  go_wp2_with fail
  refine (m1.out _).mono ?_; rintro e w' ⟨rfl, n1, rfl⟩
  go_wp2_with fail
  go_ret2
  exact ⟨rfl, n1, rfl⟩

theorem share (a0 : Int) (a1 : Int) (a2 : Int) (w0 : (Lit.int .i64 a0).wf = true) (w1 : (Lit.int .i64 a1).wf = true) (w2 : (Lit.int .i64 a2).wf = true) (w : World) :
    Calls Try.prog 4 #[.int .i64 a0, .int .i64 a1, .int .i64 a2] w fun e w' => e = .returned (.bool true) ∧ Grown w w' := by
  obtain ⟨b1, c1⟩ := bounds_i64 w1
  obtain ⟨b2, c2⟩ := bounds_i64 w2
  clear w0 w1 w2
  obtain ⟨N, E, hN⟩ : ∃ N E, md a0 a1 1000000 a2 = (N, E) := ⟨_, _, rfl⟩
  have m1 := Lib.hid (share_any a0 a1 a2 N E hN)
  have m2 := Lib.hid (rshare_any a0 a1 a2 N E hN)
  obtain ⟨K, F, hK⟩ : ∃ N E, md (cl a0) (wi a1 2000000) 1000000 (1 + wi a2 5) = (N, E) := ⟨_, _, rfl⟩
  have m3 := Lib.hid (share_any _ _ _ K F hK)
  have m4 := Lib.hid (rshare_any _ _ _ K F hK)
  have wb := wi_bd a2 5 (by omega)
  clear hN hK
  go_enter Try.func4, Try.ntmps4
  go_wp2_with fail
  refine (m1.out _).mono ?_; rintro e w' ⟨rfl, n1, rfl⟩
  go_wp2_with fail
  refine (m2.out _).mono ?_; rintro e w' ⟨rfl, n2, rfl⟩
  go_wp2_with fail
  refine (rclamp_cl a0 _).mono ?_; rintro e w' ⟨rfl, rfl⟩
  go_wp2_with fail
  refine (within_any a1 _ _ (by omega) (by omega) (by omega) (by omega)).mono ?_; rintro e w' ⟨rfl, rfl⟩
  go_wp2_with fail
  refine (within_any a2 _ _ (by omega) (by omega) (by omega) (by omega)).mono ?_; rintro e w' ⟨rfl, rfl⟩
  go_wp2_with fail
  refine (m3.out _).mono ?_; rintro e w' ⟨rfl, n3, rfl⟩
  go_wp2_with fail
  refine (rclamp_cl a0 _).mono ?_; rintro e w' ⟨rfl, rfl⟩
  go_wp2_with fail
  refine (within_any a1 _ _ (by omega) (by omega) (by omega) (by omega)).mono ?_; rintro e w' ⟨rfl, rfl⟩
  go_wp2_with fail
  refine (within_any a2 _ _ (by omega) (by omega) (by omega) (by omega)).mono ?_; rintro e w' ⟨rfl, rfl⟩
  go_wp2_with fail
  refine (m4.out _).mono ?_; rintro e w' ⟨rfl, n4, rfl⟩
  go_wp2_with fail
  refine (awake_any _).mono ?_; rintro e w' ⟨rfl, n5, rfl⟩
  go_wp2_with fail
  go_ret
  exact ⟨rfl, by repeat (first | exact Grown.refl _ | apply Grown.drew)⟩
end Go.Proofs.Ytgknkkapenggkaa.Amt
