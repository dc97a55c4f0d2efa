/- The walks of AmountOpposite and AmountWhole. -/
import Derived.Test.YtgknkkapenggkaaAmtNear
import Derived.Test.YtgknkkapenggkaaAmtFacts2
namespace Go.Proofs.Ytgknkkapenggkaa.Amt
open Go.RowKit Go.Lib
set_option linter.unusedVariables false

theorem grown_dr {w a : World} {n : Nat} (h : Grown w a) : Grown w (a.drewN n) := h

set_option maxHeartbeats 1000000 in
theorem opposite (a0 : Int) (a1 : Int) (a2 : Int) (a3 : Int) (w0 : (Lit.int .i64 a0).wf = true) (w1 : (Lit.int .i64 a1).wf = true) (w2 : (Lit.int .i64 a2).wf = true) (w3 : (Lit.int .u8 a3).wf = true) (w : World) :
    Calls Try.prog 6 #[.int .i64 a0, .int .i64 a1, .int .i64 a2, .int .u8 a3] w fun e w' => e = .returned (.bool true) ∧ Grown w w' := by
  obtain ⟨b0, c0⟩ := bounds_i64 w0
  obtain ⟨b1, c1⟩ := bounds_i64 w1
  obtain ⟨b2, c2⟩ := bounds_i64 w2
  obtain ⟨b3, c3⟩ := bounds_u8 w3
  clear w0 w1 w2 w3
  obtain ⟨A, hA⟩ : ∃ A, cl a0 = A := ⟨_, rfl⟩
  obtain ⟨U, hU⟩ : ∃ A, wi a1 17592186044417 = A := ⟨_, rfl⟩
  obtain ⟨D, hD⟩ : ∃ A, wi a2 17592186044417 = A := ⟨_, rfl⟩
  have kA := cl_bd a0
  have kU := wi_bd a1 17592186044417 (by omega)
  have kD := wi_bd a2 17592186044417 (by omega)
  rw [hA] at kA; rw [hU] at kU; rw [hD] at kD
  obtain ⟨k1, k2⟩ := kA
  have wA := Lib.hid (fun w => hA ▸ rclamp_cl a0 w)
  have wU := Lib.hid (fun w => hU ▸ within_any a1 17592186044417 w (by omega) (by omega) b1 c1)
  have wD := Lib.hid (fun w => hD ▸ within_any a2 17592186044417 w (by omega) (by omega) b2 c2)
  have hb : ¬ mdBad A U D := by unfold mdBad; omega
  obtain ⟨m, hm⟩ : ∃ m, 1 + a3 % 5 = m := ⟨_, rfl⟩
  have m1 : 1 ≤ m := by omega
  have m2 : m ≤ 5 := by omega
  obtain ⟨N, E, hN⟩ : ∃ N E, md A U D m = (N, E) := ⟨_, _, rfl⟩
  have hO := md_opp A U D m N E m1 m2 hb hN
  have mc := Lib.hid (md_any A U D m N E hN)
  have mp := Lib.hid (md_any (-A) U D (opp m) (-N) E hO)
  have mo := Lib.hid (fun w => mode_var a3 m hm w b3 c3)
  obtain ⟨nb1, nb2, _, _⟩ := md_bd _ _ _ _ _ _ hN
  clear hA hU hD kU kD hb hm hN hO b0 c0 b1 c1 b2 c2
  have mm : m = 1 ∨ m = 2 ∨ m = 3 ∨ m = 4 ∨ m = 5 := by omega
  rcases mm with rfl | rfl | rfl | rfl | rfl
  all_goals
    simp only [show opp 1 = 1 from rfl, show opp 2 = 3 from rfl, show opp 3 = 2 from rfl, show opp 4 = 4 from rfl, show opp 5 = 5 from rfl] at mp
    go_enter Try.func6, Try.ntmps6
    go_wp2_with fail
    refine (wA.out _).mono ?_; rintro e w' ⟨rfl, rfl⟩
    go_wp2_with fail
    refine (wU.out _).mono ?_; rintro e w' ⟨rfl, rfl⟩
    go_wp2_with fail
    refine (wD.out _).mono ?_; rintro e w' ⟨rfl, rfl⟩
    go_wp2_with fail
    refine (mo.out _).mono ?_; rintro e w' ⟨rfl, rfl⟩
    go_wp2_with fail
    refine (mc.out _).mono ?_; rintro e w' ⟨rfl, n1, rfl⟩
    go_wp2_with fail
    refine (mp.out _).mono ?_; rintro e w' ⟨rfl, n2, rfl⟩
    go_wp2_with fail
    refine (awake_any _).mono ?_; rintro e w' ⟨rfl, n3, rfl⟩
    go_wp2_with fail
    go_ret
    exact ⟨rfl, by repeat (first | exact Grown.refl _ | apply grown_dr | apply Grown.alloc)⟩

set_option maxHeartbeats 1000000 in
theorem whole (a0 : Int) (a1 : Int) (a2 : Int) (a3 : Int) (a4 : Int) (w0 : (Lit.int .i64 a0).wf = true) (w1 : (Lit.int .i64 a1).wf = true) (w2 : (Lit.int .i32 a2).wf = true) (w3 : (Lit.int .u16 a3).wf = true) (w4 : (Lit.int .u8 a4).wf = true) (w : World) :
    Calls Try.prog 8 #[.int .i64 a0, .int .i64 a1, .int .i32 a2, .int .u16 a3, .int .u8 a4] w fun e w' => e = .returned (.bool true) ∧ Grown w w' := by
  obtain ⟨b0, c0⟩ := bounds_i64 w0
  obtain ⟨b1, c1⟩ := bounds_i64 w1
  obtain ⟨b2, c2⟩ := bounds_i32 w2
  obtain ⟨b3, c3⟩ := bounds_u16 w3
  obtain ⟨b4, c4⟩ := bounds_u8 w4
  clear w0 w1 w2 w3 w4
  obtain ⟨A, hA⟩ : ∃ A, cl a0 = A := ⟨_, rfl⟩
  obtain ⟨U, hU⟩ : ∃ A, wi a1 17592186044416 = A := ⟨_, rfl⟩
  have kA := cl_bd a0
  have kU := wi_bd a1 17592186044416 (by omega)
  rw [hA] at kA; rw [hU] at kU
  obtain ⟨k1, k2⟩ := kA
  have k3 : 0 ≤ U := kU.1
  have k4 : U ≤ 17592186044415 := by omega
  have wA := Lib.hid (fun w => hA ▸ rclamp_cl a0 w)
  have wU := Lib.hid (fun w => hU ▸ within_any a1 17592186044416 w (by omega) (by omega) b1 c1)
  obtain ⟨m, hm⟩ : ∃ m, 1 + a4 % 5 = m := ⟨_, rfl⟩
  have m1 : 1 ≤ m := by omega
  have m2 : m ≤ 5 := by omega
  have mo := Lib.hid (fun w => mode_var a4 m hm w b4 c4)
  obtain ⟨V, hV⟩ : ∃ V, 1 + U = V := ⟨_, rfl⟩
  have h1 := md_exact A V V m A m1 m2 (by unfold mdBad; omega) (by omega) rfl k1 k2 (by omega) (by omega)
  have mc := Lib.hid (md_any A V V m A 0 h1)
  obtain ⟨G, hG⟩ : ∃ G, 1 + a3 / 8 = G := ⟨_, rfl⟩
  have g1 : 1 ≤ G := by omega
  have g2 : G ≤ 8192 := by omega
  obtain ⟨P, hP⟩ : ∃ P, a2 * G = P := ⟨_, rfl⟩
  have p1 : P ≤ 17592186044416 ∧ -17592186044416 ≤ P ∧ (0 ≤ P → 0 ≤ a2) ∧ (P < 0 → a2 ≤ 0) := by
    have e1 : a2 * G ≤ 2147483647 * G := Int.mul_le_mul_of_nonneg_right c2 (by omega)
    have e2 : -2147483648 * G ≤ a2 * G := Int.mul_le_mul_of_nonneg_right b2 (by omega)
    refine ⟨by omega, by omega, fun h => ?_, fun h => ?_⟩
    · refine Int.not_lt.1 fun h' => ?_
      have : a2 * G ≤ -1 * G := Int.mul_le_mul_of_nonneg_right (by omega) (by omega)
      omega
    · refine Int.not_lt.1 fun h' => ?_
      have : 1 * G ≤ a2 * G := Int.mul_le_mul_of_nonneg_right (by omega) (by omega)
      omega
  obtain ⟨p1, p2, p3, p4⟩ := p1
  have h2 := md_exact P 8 (8 * G) m a2 m1 m2 (by unfold mdBad; omega) (by omega) (by rw [← hP, Int.mul_assoc, Int.mul_comm G 8]) (by omega) (by omega) p3 p4
  have mp := Lib.hid (md_any P 8 (8 * G) m a2 0 h2)
  clear hA hU hm h1 h2 p3 p4 kU b0 c0 b1 c1 b4 c4
  go_enter Try.func8, Try.ntmps8
  go_wp2_with fail
  refine (wA.out _).mono ?_; rintro e w' ⟨rfl, rfl⟩
  go_wp2_with fail
  refine (wU.out _).mono ?_; rintro e w' ⟨rfl, rfl⟩
  go_wp2_with fail
  refine (mo.out _).mono ?_; rintro e w' ⟨rfl, rfl⟩
  go_wp2_with fail
  refine (mc.out _).mono ?_; rintro e w' ⟨rfl, n1, rfl⟩
  go_wp2_with fail
  refine (mo.out _).mono ?_; rintro e w' ⟨rfl, rfl⟩
  go_wp2_with fail
  refine (mp.out _).mono ?_; rintro e w' ⟨rfl, n2, rfl⟩
  go_wp2_with fail
  refine (awake_any _).mono ?_; rintro e w' ⟨rfl, n3, rfl⟩
  go_wp2_with fail
  go_ret
  exact ⟨rfl, by repeat (first | exact Grown.refl _ | apply grown_dr)⟩
end Go.Proofs.Ytgknkkapenggkaa.Amt
