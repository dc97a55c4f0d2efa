/- The walk of AmountNear. -/
import Derived.Test.YtgknkkapenggkaaAmtLaws
import Derived.Test.YtgknkkapenggkaaAmtFacts
namespace Go.Proofs.Ytgknkkapenggkaa.Amt
open Go.RowKit Go.Lib
set_option linter.unusedVariables false

theorem mode_var (k m : Int) (hm : 1 + k % 5 = m) (w : World) (h0 : 0 ≤ k) (h1 : k ≤ 255) : Calls Try.prog 17 #[.int .u8 k] w fun e w' => e = .returned (.int .i64 m) ∧ w = w' := by
  rw [← hm]; exact mode_any k w h0 h1

set_option maxRecDepth 100000 in
set_option maxHeartbeats 1000000 in
theorem near (a0 : Int) (a1 : Int) (a2 : Int) (a3 : Int) (w0 : (Lit.int .i32 a0).wf = true) (w1 : (Lit.int .u16 a1).wf = true) (w2 : (Lit.int .u16 a2).wf = true) (w3 : (Lit.int .u8 a3).wf = true) (w : World) :
    Calls Try.prog 5 #[.int .i32 a0, .int .u16 a1, .int .u16 a2, .int .u8 a3] w fun e w' => e = .returned (.bool true) ∧ Grown w w' := by
  obtain ⟨b0, c0⟩ := bounds_i32 w0
  obtain ⟨b1, c1⟩ := bounds_u16 w1
  obtain ⟨b2, c2⟩ := bounds_u16 w2
  obtain ⟨b3, c3⟩ := bounds_u8 w3
  clear w0 w1 w2 w3
  by_cases hz : a2 = 0
  · subst hz
    go_enter Try.func5, Try.ntmps5
    go_wp2_with fail
    refine (awake_any _).mono ?_; rintro e w' ⟨rfl, n1, rfl⟩
    go_wp2_with fail
    go_ret
    exact ⟨rfl, Grown.refl _⟩
  · have z : (a2 == 0) = false := by simp [hz]
    have d1 : 1 ≤ a2 := by omega
    clear hz b2
    obtain ⟨X, hX⟩ : ∃ X, a0.tdiv 16 = X := ⟨_, rfl⟩
    have x1 : -134217728 ≤ X ∧ X ≤ 134217728 := by
      have h1 := Int.mul_tdiv_add_tmod a0 16
      have h2 := Int.lt_tmod_of_pos a0 (show (0 : Int) < 16 by decide)
      have h3 := Int.tmod_lt_of_pos a0 (show (0 : Int) < 16 by decide)
      omega
    obtain ⟨x1, x2⟩ := x1
    obtain ⟨m, hm⟩ : ∃ m, 1 + a3 % 5 = m := ⟨_, rfl⟩
    have m1 : 1 ≤ m := by omega
    have m2 : m ≤ 5 := by omega
    have hb : ¬ mdBad X a1 a2 := by unfold mdBad; omega
    have hp : X * a1 ≤ 8796093022208 ∧ -8796093022208 ≤ X * a1 := by
      have h1 : X * a1 ≤ 134217728 * a1 := Int.mul_le_mul_of_nonneg_right x2 b1
      have h2 : -134217728 * a1 ≤ X * a1 := Int.mul_le_mul_of_nonneg_right x1 b1
      omega
    obtain ⟨N, hN, n1, n2⟩ : ∃ N, md X a1 a2 m = (N, 0) ∧ -8796093022209 ≤ N ∧ N ≤ 8796093022209 := by
      obtain ⟨q, r, q0, r0, r1, hp1, hn, hmd⟩ := md_facts X a1 a2 m m1 m2 hb (by omega)
      have hq : q ≤ 8796093022208 := by
        have : q * 1 ≤ q * a2 := Int.mul_le_mul_of_nonneg_left d1 q0
        by_cases h : X < 0
        · have := hn h; omega
        · have := hp1 (by omega); omega
      have hu : 0 ≤ u1 q r a2 m (decide (X < 0)) ∧ u1 q r a2 m (decide (X < 0)) ≤ 1 := by rcases u1_cases q r a2 m (decide (X < 0)) with h | h <;> omega
      rw [if_neg (by omega)] at hmd
      exact ⟨_, hmd, by split <;> omega, by split <;> omega⟩
    have hh := near_of X a1 a2 m N m1 m2 hb (by omega) hN
    have mc := Lib.hid (md_any X a1 a2 m N 0 hN)
    have mo := Lib.hid (fun w => mode_var a3 m hm w b3 c3)
    obtain ⟨P, hP⟩ : ∃ P, X * a1 = P := ⟨_, rfl⟩
    obtain ⟨B, hB⟩ : ∃ B, N * a2 = B := ⟨_, rfl⟩
    obtain ⟨D, hD⟩ : ∃ D, P - B = D := ⟨_, rfl⟩
    obtain ⟨lo, hi, zero, floor, ceil, half, even⟩ := hh
    rw [hP, hB, hD] at lo hi
    simp only [hP, hB, hD] at zero floor ceil half even
    rw [hP] at hp
    obtain ⟨p1, p2⟩ := hp
    have q1 : -8796093100000 ≤ B := by omega
    have q2 : B ≤ 8796093100000 := by omega
    have hN' := Lib.hid hN
    have hm' := Lib.hid hm
    have l1 : D ≤ a2 - 1 := by omega
    have l2 : -D ≤ a2 - 1 := by omega
    have t1 : decide (a2 ≤ D) = false := by simp; omega
    have t2 : decide (a2 ≤ -D) = false := by simp; omega
    have hD' := Lib.hid (show P - B = D from hD)
    clear hN hm hb lo hi
    have mm : m = 1 ∨ m = 2 ∨ m = 3 ∨ m = 4 ∨ m = 5 := by omega
    rcases mm with rfl | rfl | rfl | rfl | rfl
    · obtain ⟨f, g⟩ := zero rfl
      clear zero floor ceil half even
      by_cases hx : 0 ≤ X
      · have f' := f hx
        have t3 : decide (0 ≤ X) = true := by simp; omega
        have t4 : decide (0 ≤ D) = true := by simp; omega
        clear f g
        go_enter Try.func5, Try.ntmps5
        go_wp2_with fail
        refine (mo.out _).mono ?_; rintro e w' ⟨rfl, rfl⟩
        go_wp2_with fail
        refine (mc.out _).mono ?_; rintro e w' ⟨rfl, n1, rfl⟩
        go_wp2_with fail
        refine (mo.out _).mono ?_; rintro e w' ⟨rfl, rfl⟩
        go_wp2_with fail
        refine (awake_any _).mono ?_; rintro e w' ⟨rfl, n2, rfl⟩
        go_wp2_with fail
        go_ret
        exact ⟨rfl, by repeat (first | exact Grown.refl _ | apply Grown.drew)⟩
      · have g' := g (by omega)
        have t3 : decide (0 ≤ X) = false := by simp; omega
        have t4 : decide (X ≤ 0) = true := by simp; omega
        have t5 : decide (D ≤ 0) = true := by simp; omega
        clear f g
        go_enter Try.func5, Try.ntmps5
        go_wp2_with fail
        refine (mo.out _).mono ?_; rintro e w' ⟨rfl, rfl⟩
        go_wp2_with fail
        refine (mc.out _).mono ?_; rintro e w' ⟨rfl, n1, rfl⟩
        go_wp2_with fail
        refine (mo.out _).mono ?_; rintro e w' ⟨rfl, rfl⟩
        go_wp2_with fail
        refine (awake_any _).mono ?_; rintro e w' ⟨rfl, n2, rfl⟩
        go_wp2_with fail
        go_ret
        exact ⟨rfl, by repeat (first | exact Grown.refl _ | apply Grown.drew)⟩
    · have f := floor rfl
      have t3 : decide (0 ≤ D) = true := by simp; omega
      clear zero floor ceil half even
      go_enter Try.func5, Try.ntmps5
      go_wp2_with fail
      refine (mo.out _).mono ?_; rintro e w' ⟨rfl, rfl⟩
      go_wp2_with fail
      refine (mc.out _).mono ?_; rintro e w' ⟨rfl, n1, rfl⟩
      go_wp2_with fail
      refine (mo.out _).mono ?_; rintro e w' ⟨rfl, rfl⟩
      go_wp2_with fail
      refine (awake_any _).mono ?_; rintro e w' ⟨rfl, n2, rfl⟩
      go_wp2_with fail
      go_ret
      exact ⟨rfl, by repeat (first | exact Grown.refl _ | apply Grown.drew)⟩
    · have f := ceil rfl
      have t3 : decide (D ≤ 0) = true := by simp; omega
      clear zero floor ceil half even
      go_enter Try.func5, Try.ntmps5
      go_wp2_with fail
      refine (mo.out _).mono ?_; rintro e w' ⟨rfl, rfl⟩
      go_wp2_with fail
      refine (mc.out _).mono ?_; rintro e w' ⟨rfl, n1, rfl⟩
      go_wp2_with fail
      refine (mo.out _).mono ?_; rintro e w' ⟨rfl, rfl⟩
      go_wp2_with fail
      refine (awake_any _).mono ?_; rintro e w' ⟨rfl, n2, rfl⟩
      go_wp2_with fail
      go_ret
      exact ⟨rfl, by repeat (first | exact Grown.refl _ | apply Grown.drew)⟩
    · obtain ⟨f, g⟩ := half (by omega)
      have g' : -2 * D ≤ a2 := by omega
      have t3 : decide (2 * D ≤ a2) = true := by simp; omega
      have t4 : decide (-2 * D ≤ a2) = true := by simp; omega
      clear zero floor ceil half even
      go_enter Try.func5, Try.ntmps5
      go_wp2_with fail
      refine (mo.out _).mono ?_; rintro e w' ⟨rfl, rfl⟩
      go_wp2_with fail
      refine (mc.out _).mono ?_; rintro e w' ⟨rfl, n1, rfl⟩
      go_wp2_with fail
      refine (mo.out _).mono ?_; rintro e w' ⟨rfl, rfl⟩
      go_wp2_with fail
      refine (awake_any _).mono ?_; rintro e w' ⟨rfl, n2, rfl⟩
      go_wp2_with fail
      go_ret
      exact ⟨rfl, by repeat (first | exact Grown.refl _ | apply Grown.drew)⟩
    · obtain ⟨f, g⟩ := half (by omega)
      have g' : -2 * D ≤ a2 := by omega
      have t3 : decide (2 * D ≤ a2) = true := by simp; omega
      have t4 : decide (-2 * D ≤ a2) = true := by simp; omega
      have ev := even rfl
      clear zero floor ceil half even
      by_cases h1 : 2 * D = a2
      · have hN2 : N % 2 = 0 := ev (.inl h1)
        have t5 : (2 * D != a2) = false := by simp [h1]
        have t6 : N.tmod 2 = 0 := by rw [Int.tmod_eq_emod]; split <;> omega
        have h1' := Lib.hid h1
        have hN2' := Lib.hid hN2
        clear ev h1 hN2
        go_enter Try.func5, Try.ntmps5
        go_wp2_with fail
        refine (mo.out _).mono ?_; rintro e w' ⟨rfl, rfl⟩
        go_wp2_with fail
        refine (mc.out _).mono ?_; rintro e w' ⟨rfl, n1, rfl⟩
        go_wp2_with fail
        refine (mo.out _).mono ?_; rintro e w' ⟨rfl, rfl⟩
        go_wp2_with fail
        refine (awake_any _).mono ?_; rintro e w' ⟨rfl, n2, rfl⟩
        go_wp2_with fail
        go_ret
        exact ⟨rfl, by repeat (first | exact Grown.refl _ | apply Grown.drew)⟩
      · have t5 : (2 * D != a2) = true := by simp [h1]
        by_cases h2 : -2 * D = a2
        · have hN2 : N % 2 = 0 := ev (.inr (by omega))
          have t7 : (-2 * D != a2) = false := by simp [h2]
          have t6 : N.tmod 2 = 0 := by rw [Int.tmod_eq_emod]; split <;> omega
          have h2' := Lib.hid h2
          have hN2' := Lib.hid hN2
          clear ev h1 h2 hN2
          go_enter Try.func5, Try.ntmps5
          go_wp2_with fail
          refine (mo.out _).mono ?_; rintro e w' ⟨rfl, rfl⟩
          go_wp2_with fail
          refine (mc.out _).mono ?_; rintro e w' ⟨rfl, n1, rfl⟩
          go_wp2_with fail
          refine (mo.out _).mono ?_; rintro e w' ⟨rfl, rfl⟩
          go_wp2_with fail
          refine (awake_any _).mono ?_; rintro e w' ⟨rfl, n2, rfl⟩
          go_wp2_with fail
          go_ret
          exact ⟨rfl, by repeat (first | exact Grown.refl _ | apply Grown.drew)⟩
        · have t7 : (-2 * D != a2) = true := by simp; omega
          clear ev h1 h2
          go_enter Try.func5, Try.ntmps5
          go_wp2_with fail
          refine (mo.out _).mono ?_; rintro e w' ⟨rfl, rfl⟩
          go_wp2_with fail
          refine (mc.out _).mono ?_; rintro e w' ⟨rfl, n1, rfl⟩
          go_wp2_with fail
          refine (mo.out _).mono ?_; rintro e w' ⟨rfl, rfl⟩
          go_wp2_with fail
          refine (awake_any _).mono ?_; rintro e w' ⟨rfl, n2, rfl⟩
          go_wp2_with fail
          go_ret
          exact ⟨rfl, by repeat (first | exact Grown.refl _ | apply Grown.drew)⟩
end Go.Proofs.Ytgknkkapenggkaa.Amt
