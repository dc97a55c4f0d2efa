/- The walk of AmountOrder. -/
import Derived.Test.YtgknkkapenggkaaAmtMore
namespace Go.Proofs.Ytgknkkapenggkaa.Amt
open Go.RowKit Go.Lib
set_option linter.unusedVariables false

set_option maxRecDepth 100000 in
set_option maxHeartbeats 2000000 in
theorem order (a0 : Int) (a1 : Int) (a2 : Int) (a3 : Int) (a4 : Int) (w0 : (Lit.int .i64 a0).wf = true) (w1 : (Lit.int .i64 a1).wf = true) (w2 : (Lit.int .i64 a2).wf = true) (w3 : (Lit.int .i64 a3).wf = true) (w4 : (Lit.int .u8 a4).wf = true) (w : World) :
    Calls Try.prog 7 #[.int .i64 a0, .int .i64 a1, .int .i64 a2, .int .i64 a3, .int .u8 a4] w fun e w' => e = .returned (.bool true) ∧ Grown w w' := by
  obtain ⟨b2, c2⟩ := bounds_i64 w2
  obtain ⟨b3, c3⟩ := bounds_i64 w3
  obtain ⟨b4, c4⟩ := bounds_u8 w4
  clear w0 w1 w2 w3 w4
  obtain ⟨A, hA⟩ : ∃ A, cl a0 = A := ⟨_, rfl⟩
  obtain ⟨B, hB⟩ : ∃ A, cl a1 = A := ⟨_, rfl⟩
  obtain ⟨U, hU⟩ : ∃ A, wi a2 1048576 = A := ⟨_, rfl⟩
  obtain ⟨D', hD⟩ : ∃ A, wi a3 1048576 = A := ⟨_, rfl⟩
  have kA := cl_bd a0
  have kB := cl_bd a1
  have kU := wi_bd a2 1048576 (by omega)
  have kD := wi_bd a3 1048576 (by omega)
  rw [hA] at kA; rw [hB] at kB; rw [hU] at kU; rw [hD] at kD
  obtain ⟨k1, k2⟩ := kA
  obtain ⟨k3, k4⟩ := kB
  obtain ⟨k5, k6⟩ := kU
  obtain ⟨k7, k8⟩ := kD
  have k6' : U ≤ 1048575 := by omega
  have k8' : D' ≤ 1048575 := by omega
  have wA := Lib.hid (fun w => hA ▸ rclamp_cl a0 w)
  have wB := Lib.hid (fun w => hB ▸ rclamp_cl a1 w)
  have wU := Lib.hid (fun w => hU ▸ within_any a2 1048576 w (by omega) (by omega) b2 c2)
  have wD := Lib.hid (fun w => hD ▸ within_any a3 1048576 w (by omega) (by omega) b3 c3)
  obtain ⟨D, hDD⟩ : ∃ D, 1 + D' = D := ⟨_, rfl⟩
  have d0 : 1 ≤ D := by omega
  have d1 : D ≤ 1048576 := by omega
  obtain ⟨m, hm⟩ : ∃ m, 1 + a4 % 5 = m := ⟨_, rfl⟩
  have m1 : 1 ≤ m := by omega
  have m2 : m ≤ 5 := by omega
  have mo := Lib.hid (fun w => mode_var a4 m hm w b4 c4)
  obtain ⟨P, Q, hPQ, hsw⟩ : ∃ P Q, P ≤ Q ∧ ((A ≤ B ∧ P = A ∧ Q = B) ∨ (B < A ∧ P = B ∧ Q = A)) := by
    by_cases h : A ≤ B
    · exact ⟨A, B, h, .inl ⟨h, rfl, rfl⟩⟩
    · exact ⟨B, A, by omega, .inr ⟨by omega, rfl, rfl⟩⟩
  have hbP : ¬ mdBad P U D := by unfold mdBad; rcases hsw with ⟨_, rfl, rfl⟩ | ⟨_, rfl, rfl⟩ <;> omega
  have hbQ : ¬ mdBad Q U D := by unfold mdBad; rcases hsw with ⟨_, rfl, rfl⟩ | ⟨_, rfl, rfl⟩ <;> omega
  obtain ⟨N, E, hN⟩ : ∃ N E, md P U D m = (N, E) := ⟨_, _, rfl⟩
  obtain ⟨M, F, hM⟩ : ∃ N E, md Q U D m = (N, E) := ⟨_, _, rfl⟩
  have mP := Lib.hid (md_any P U D m N E hN)
  have mQ := Lib.hid (md_any Q U D m M F hM)
  have hmono : E = 0 → F = 0 → N ≤ M := by
    rintro rfl rfl
    exact md_mono P Q U D m N M m1 m2 hbP hbQ (by omega) hPQ hN hM
  obtain ⟨Z, hZ⟩ : ∃ Z, max P (-P) = Z := ⟨_, rfl⟩
  have z0 : 0 ≤ Z := by omega
  have hbZ : ¬ mdBad Z U D := by unfold mdBad; rcases hsw with ⟨_, rfl, rfl⟩ | ⟨_, rfl, rfl⟩ <;> omega
  have hL := Lib.hid (fun (x y j : Int) (w : World) (h : md Z U D j = (x, y)) => md_any Z U D j x y h w)
  have hZO := Lib.hid (fun (k : Nat) (hk : k < 4) N M h h' => modes_order Z U D k hk z0 hbZ (by omega) N M h h')
  have hsg := Lib.hid (fun j L (h1 : 1 ≤ j) (h2 : j ≤ 5) (h : md Z U D j = (L, 0)) => (md_sign Z U D j L h1 h2 hbZ (by omega) h).1 z0)
  have hbd := Lib.hid (fun j L G (h : md Z U D j = (L, G)) => md_bd Z U D j L G h)
  have bN := md_bd _ _ _ _ _ _ hN
  have bM := md_bd _ _ _ _ _ _ hM
  obtain ⟨p1, p2⟩ : -17592186044416 ≤ P ∧ P ≤ 17592186044416 := by rcases hsw with ⟨_, rfl, rfl⟩ | ⟨_, rfl, rfl⟩ <;> omega
  obtain ⟨bn1, bn2, _, _⟩ := bN
  obtain ⟨bm1, bm2, _, _⟩ := bM
  have hmono' := Lib.hid hmono
  clear hA hB hU hD hm hN hM hmono hbP hbQ hbZ k6 k8 b2 c2 b3 c3 b4 c4
  have hE : (E == 0) = true ∧ (F == 0) = true ∧ N ≤ M ∨ (E == 0) = true ∧ (F == 0) = false ∨ (E == 0) = false := by
    by_cases h1 : E = 0
    · by_cases h2 : F = 0
      · exact .inl ⟨by simp [h1], by simp [h2], hmono'.out h1 h2⟩
      · exact .inr (.inl ⟨by simp [h1], by simp [h2]⟩)
    · exact .inr (.inr (by simp [h1]))
  have t0 : Q < P → False := by omega
  clear hmono'
  rcases hsw with ⟨hh, rfl, rfl⟩ | ⟨hh, rfl, rfl⟩
  all_goals
    go_enter Try.func7, Try.ntmps7
    go_wp2_with fail
    refine (wA.out _).mono ?_; rintro e w' ⟨rfl, rfl⟩
    go_wp2_with fail
    refine (wB.out _).mono ?_; rintro e w' ⟨rfl, rfl⟩
    go_wp2_with fail
    refine (wU.out _).mono ?_; rintro e w' ⟨rfl, rfl⟩
    go_wp2_with fail
    refine (wD.out _).mono ?_; rintro e w' ⟨rfl, rfl⟩
    go_wp2_with fail
    refine (mo.out _).mono ?_; rintro e w' ⟨rfl, rfl⟩
    go_wp2_with fail
    refine (mP.out _).mono ?_; rintro e w' ⟨rfl, n1, rfl⟩
    go_wp2_with fail
    refine (mo.out _).mono ?_; rintro e w' ⟨rfl, rfl⟩
    go_wp2_with fail
    refine (mQ.out _).mono ?_; rintro e w' ⟨rfl, n2, rfl⟩
    rcases hE with ⟨g1, g2, g3⟩ | ⟨g1, g2⟩ | g1
    all_goals
      go_wp2_with fail
      go_loopw [15, 69] (fun last idx wx => ∃ k : Nat, k ≤ 5 ∧ idx = .int .i64 k ∧ ∃ L : Int, last = .int .i64 L ∧ Hid (k = 0 → L = 0) ∧ Hid (∀ j, k = j + 1 → md Z U D (modeAt j) = (L, 0)) ∧ ∃ n, wx = (w.alloc (.cells #[.int .i64 2, .int .i64 1, .int .i64 5, .int .i64 4, .int .i64 3] 3)).drewN n) (fun _ i _ => 5 - (RowKit.intOf i).toNat)
      case atStart => exact ⟨0, by omega, rfl, 0, rfl, Lib.hid (fun _ => rfl), Lib.hid (fun j h => by omega), n1 + n2, rfl⟩
      case round =>
        obtain ⟨k, hk, rfl, L, rfl, hL0, hL1, n, rfl⟩ := hrel
        by_cases h5 : k < 5
        · obtain ⟨Y, G, hY⟩ : ∃ Y G, md Z U D (modeAt k) = (Y, G) := ⟨_, _, rfl⟩
          obtain ⟨y1, y2, g4, g5⟩ := hbd.out _ _ _ hY
          have hc := Lib.hid (hL.out Y G (modeAt k) · hY)
          by_cases hG : G = 0
          · subst hG
            have y0 : 0 ≤ Y := hsg.out _ _ (by unfold modeAt; repeat (first | omega | split)) (by unfold modeAt; repeat (first | omega | split)) hY
            have yL : L ≤ Y := by
              by_cases hk0 : k = 0
              · rw [hL0.out hk0]; exact y0
              · have hj : k = (k - 1) + 1 := by omega
                refine hZO.out (k - 1) (by omega) L Y (hL1.out _ hj) ?_
                rw [← hj]; exact hY
            have t1 : decide (Y < L) = false := by simp; omega
            have t2 : decide (Y < 0) = false := by simp; omega
            have hY' := Lib.hid hY
            clear hY
            have h6 : k = 0 ∨ k = 1 ∨ k = 2 ∨ k = 3 ∨ k = 4 := by omega
            rcases h6 with rfl | rfl | rfl | rfl | rfl
            · simp only [show modeAt 0 = 2 from rfl] at hc
              go_wp2_with fail
              refine (hc.out _).mono ?_; rintro e w' ⟨rfl, n3, rfl⟩
              go_wp2_with fail
              go_roundw
              case rel => exact ⟨1, by omega, rfl, Y, rfl, Lib.hid (fun h => by omega), Lib.hid (fun j h => by rw [show j = 0 by omega]; exact hY'.out), n + n3, rfl⟩
              case measure => simp [RowKit.intOf]
            · simp only [show modeAt 1 = 1 from rfl] at hc
              go_wp2_with fail
              refine (hc.out _).mono ?_; rintro e w' ⟨rfl, n3, rfl⟩
              go_wp2_with fail
              go_roundw
              case rel => exact ⟨2, by omega, rfl, Y, rfl, Lib.hid (fun h => by omega), Lib.hid (fun j h => by rw [show j = 1 by omega]; exact hY'.out), n + n3, rfl⟩
              case measure => simp [RowKit.intOf]
            · simp only [show modeAt 2 = 5 from rfl] at hc
              go_wp2_with fail
              refine (hc.out _).mono ?_; rintro e w' ⟨rfl, n3, rfl⟩
              go_wp2_with fail
              go_roundw
              case rel => exact ⟨3, by omega, rfl, Y, rfl, Lib.hid (fun h => by omega), Lib.hid (fun j h => by rw [show j = 2 by omega]; exact hY'.out), n + n3, rfl⟩
              case measure => simp [RowKit.intOf]
            · simp only [show modeAt 3 = 4 from rfl] at hc
              go_wp2_with fail
              refine (hc.out _).mono ?_; rintro e w' ⟨rfl, n3, rfl⟩
              go_wp2_with fail
              go_roundw
              case rel => exact ⟨4, by omega, rfl, Y, rfl, Lib.hid (fun h => by omega), Lib.hid (fun j h => by rw [show j = 3 by omega]; exact hY'.out), n + n3, rfl⟩
              case measure => simp [RowKit.intOf]
            · simp only [show modeAt 4 = 3 from rfl] at hc
              go_wp2_with fail
              refine (hc.out _).mono ?_; rintro e w' ⟨rfl, n3, rfl⟩
              go_wp2_with fail
              go_roundw
              case rel => exact ⟨5, by omega, rfl, Y, rfl, Lib.hid (fun h => by omega), Lib.hid (fun j h => by rw [show j = 4 by omega]; exact hY'.out), n + n3, rfl⟩
              case measure => simp [RowKit.intOf]
          · have hG' : (G == 0) = false := by simp [hG]
            clear hY hG
            have h6 : k = 0 ∨ k = 1 ∨ k = 2 ∨ k = 3 ∨ k = 4 := by omega
            rcases h6 with rfl | rfl | rfl | rfl | rfl
            all_goals
              simp only [show modeAt 0 = 2 from rfl, show modeAt 1 = 1 from rfl, show modeAt 2 = 5 from rfl, show modeAt 3 = 4 from rfl, show modeAt 4 = 3 from rfl] at hc
              go_wp2_with fail
              refine (hc.out _).mono ?_; rintro e w' ⟨rfl, n3, rfl⟩
              go_wp2_with fail
              refine (awake_any _).mono ?_; rintro e w' ⟨rfl, n4, rfl⟩
              go_wp2_with fail
              go_ret
              exact ⟨rfl, by repeat (first | exact Grown.refl _ | apply grown_dr | apply Grown.alloc)⟩
        · obtain rfl : k = 5 := by omega
          go_wp2_with fail
          refine (awake_any _).mono ?_; rintro e w' ⟨rfl, n4, rfl⟩
          go_wp2_with fail
          go_ret
          exact ⟨rfl, by repeat (first | exact Grown.refl _ | apply grown_dr | apply Grown.alloc)⟩
end Go.Proofs.Ytgknkkapenggkaa.Amt
