/- math/bits.Div64 returns the quotient and the remainder of a dividend of two words, where the quotient fits and the divisor is at most 2^44. -/
import Derived.Test.YtcdfedkcefhdiaaMulLeaf
import Derived.Test.YtcdfedkcefhdiaaAmtMath
import Derived.Test.YtcdfedkcefhdiaaShelf
import Derived.Deep.CutBlock
import Derived.Deep.DeepCutAuto
namespace Go.Proofs.Ytcdfedkcefhdiaa.Amt
open Go.RowKit Go.Lib Go.Proofs.Ytcdfedkcefhdiaa.Bas
set_option linter.unusedVariables false

theorem shlN (a s : Nat) (h : a * 2 ^ s < 18446744073709551616) : IntKind.u64.wrap ((a : Int) * 2 ^ s) = ((a * 2 ^ s : Nat) : Int) := by
  rw [show (a : Int) * 2 ^ s = ((a * 2 ^ s : Nat) : Int) by simp]
  exact wrapN _ h

theorem orN (a b s : Nat) (ha : a * 2 ^ s < 18446744073709551616) (hb : b < 2 ^ s) (hb' : b < 18446744073709551616) : bits .or .u64 ((a : Int) * 2 ^ s) (b : Int) = ((a * 2 ^ s + b : Nat) : Int) := by
  rw [show (a : Int) * 2 ^ s = ((a * 2 ^ s : Nat) : Int) by simp, bits_or_u64_nat _ _ ha hb', Nat.mul_comm a, ← Nat.two_pow_add_eq_or_of_lt hb]
theorem shrN (a k : Nat) : (a : Int) / 2 ^ k = ((a / 2 ^ k : Nat) : Int) := by simp

/-- What is left of the dividend behind a digit: the machine's words wrap, the rest does not. -/
theorem restN (u u1 Y : Nat) (hY : 0 < Y) (hY' : Y < 18446744073709551616) :
    IntKind.u64.wrap (IntKind.u64.wrap (IntKind.u64.wrap ((u : Int) * 4294967296) + (u1 : Int)) - IntKind.u64.wrap (((u * 4294967296 + u1) / Y : Nat) * (Y : Int))) = (((u * 4294967296 + u1) % Y : Nat) : Int) := by
  have e : (u * 4294967296 + u1) / Y * Y + (u * 4294967296 + u1) % Y = u * 4294967296 + u1 := Nat.div_add_mod' _ _
  have l : (u * 4294967296 + u1) % Y < Y := Nat.mod_lt _ hY
  generalize (u * 4294967296 + u1) / Y = q at *
  generalize (u * 4294967296 + u1) % Y = r at *
  rw [mulN]
  generalize q * Y = A at *
  simp only [IntKind.wrap_u64]
  omega

theorem lz_any (y : Nat) (hy : y < 18446744073709551616) (w : World) : Calls Try.prog 51 #[.int .u64 y] w fun e w' => e = .returned (.int .i64 (64 - (Lib.bitLen y : Int))) ∧ w = w' :=
  (Try.bits_LeadingZeros64 y w (by omega) (by omega)).mono fun e w' h => ⟨by rw [h.1, Int.toNat_natCast], h.2.symm⟩

set_option maxHeartbeats 400000 in
theorem div64_zero (lo y : Nat) (hl : lo < 18446744073709551616) (hy0 : 0 < y) (hy : y ≤ 17592186044416) (w : World) :
    Calls Try.prog 49 #[.int .u64 0, .int .u64 lo, .int .u64 y] w fun e w' => e = .returned (.tuple #[.int .u64 ((lo / y : Nat) : Int), .int .u64 ((lo % y : Nat) : Int)]) ∧ Dr w w' := by
  have e1 : (((y : Nat) : Int) == 0) = false := by simp; omega
  have e2 : decide ((y : Int) ≤ 0) = false := by simp; omega
  have e3 : IntKind.u64.wrap ((lo : Int) / (y : Int)) = ((lo / y : Nat) : Int) := by
    rw [show (lo : Int) / (y : Int) = ((lo / y : Nat) : Int) by simp]; exact wrapN _ (Nat.lt_of_le_of_lt (Nat.div_le_self _ _) hl)
  go_enter Try.func49, Try.ntmps49
  go_wp2
  go_region
  all_goals go_wp2
  all_goals (go_ret2; exact ⟨by simp, 1, rfl⟩)

set_option maxRecDepth 100000 in
set_option maxHeartbeats 400000 in
theorem div64_core (hi lo y s Y H u yn1 yn0 L u1 u0 Q1 V Q0 V0 : Nat) (h0 : 0 < hi) (hh : hi < y) (hy : y ≤ 17592186044416) (n1 : 19 ≤ s) (n2 : s ≤ 63)
    (es : (64 - (Lib.bitLen y : Int)) = (s : Int)) (k1 : IntKind.u64.wrap ((y : Int) * 2 ^ s) = (Y : Int)) (k2 : IntKind.u64.wrap ((hi : Int) * 2 ^ s) = (H : Int))
    (hor : bits .or .u64 (H : Int) ((lo : Int) / 2 ^ (64 - s)) = (u : Int)) (hL : IntKind.u64.wrap ((lo : Int) * 2 ^ s) = (L : Int))
    (Y1 : ((Y : Int) / 4294967296) = (yn1 : Int)) (Y0 : bits .and .u64 (Y : Int) 4294967295 = (yn0 : Int)) (L1 : ((L : Int) / 4294967296) = (u1 : Int)) (L0 : bits .and .u64 (L : Int) 4294967295 = (u0 : Int))
    (NN : Norm u yn1 yn0 u1 Y) (NN0 : Norm V yn1 yn0 u0 Y) (u64 : u < 18446744073709551616) (v64 : V < 18446744073709551616)
    (hQ : (u * 4294967296 + u1) / Y = Q1) (hQ0 : (V * 4294967296 + u0) / Y = Q0)
    (hR : IntKind.u64.wrap (IntKind.u64.wrap (IntKind.u64.wrap ((u : Int) * 4294967296) + (u1 : Int)) - IntKind.u64.wrap ((Q1 : Int) * (Y : Int))) = (V : Int))
    (hR0 : IntKind.u64.wrap (IntKind.u64.wrap (IntKind.u64.wrap ((V : Int) * 4294967296) + (u0 : Int)) - IntKind.u64.wrap ((Q0 : Int) * (Y : Int))) = (V0 : Int)) (w : World) :
    Calls Try.prog 49 #[.int .u64 hi, .int .u64 lo, .int .u64 y] w fun e w' => e = .returned (.tuple #[.int .u64 ((Q1 : Int) * 4294967296 + (Q0 : Int)), .int .u64 ((V0 : Int) / 2 ^ s)]) ∧ w = w' := by
  have e1 : (((y : Nat) : Int) == 0) = false := by simp; omega
  have e2 : decide ((y : Int) ≤ (hi : Int)) = false := by simp; omega
  have e3 : (((hi : Nat) : Int) == 0) = false := by simp; omega
  have y1 := NN.y1
  have e4 : ((yn1 : Int) == 0) = false := by simp; omega
  have D := dig_start NN
  have D0 := dig_start NN0
  have q0 : ((u : Int) / (yn1 : Int)) = ((u / yn1 : Nat) : Int) := by simp
  have q0' : ((V : Int) / (yn1 : Int)) = ((V / yn1 : Nat) : Int) := by simp
  have HQ := Lib.hid hQ
  have HQ0 := Lib.hid hQ0
  clear hQ hQ0
  generalize u / yn1 = q at *
  generalize u % yn1 = r at *
  generalize V / yn1 = p at *
  generalize V % yn1 = t at *
  have b1 : (q : Int) ≤ 4294967298 := by have := dig_bound NN D.eq; omega
  have b2 : (p : Int) ≤ 4294967298 := by have := dig_bound NN0 D0.eq; omega
  have m1 : ((q : Int) * (yn1 : Int)) + r = u := by have := D.eq; rw [mulN]; omega
  have m2 : ((p : Int) * (yn1 : Int)) + t = V := by have := D0.eq; rw [mulN]; omega
  have m3 : (0 : Int) ≤ (q : Int) * (yn1 : Int) := by rw [mulN]; omega
  have m4 : (0 : Int) ≤ (p : Int) * (yn1 : Int) := by rw [mulN]; omega
  have m1a : ((q : Int) * (yn1 : Int)) ≤ u := by omega
  have m2a : ((p : Int) * (yn1 : Int)) ≤ V := by omega
  have m1b : (u : Int) - (q : Int) * (yn1 : Int) = r := by omega
  have m2b : (V : Int) - (p : Int) * (yn1 : Int) = t := by omega
  clear m1 m2
  have hR' := Lib.hid hR
  have hR0' := Lib.hid hR0
  clear hR hR0
  have u64' : (u : Int) ≤ 18446744073709551615 := by omega
  have v64' : (V : Int) ≤ 18446744073709551615 := by omega
  clear u64 v64
  go_enter Try.func49, Try.ntmps49
  go_upto_block 0 with (go_at_call 51; refine (lz_any _ (by omega) _).mono ?_; rintro e w' ⟨rfl, rfl⟩; rw [es])
  go_cut [15] (fun x wx => x = .int .u64 (Q1 : Int) ∧ wx = w)
  case first =>
    go_wp2_with fail
    go_loop [15, 16] (fun a b => ∃ q r : Nat, Dig u yn1 u1 Y q r ∧ a = .int .u64 q ∧ b = .int .u64 r) (fun a _ => (RowKit.intOf a).toNat)
    case atStart => exact ⟨q, r, D, rfl, rfl⟩
    case round =>
      obtain ⟨q, r, D, rfl, rfl⟩ := hrel
      have rl : (r : Int) ≤ 4294967295 := by have := D.lt; omega
      have y1' : (yn1 : Int) ≤ 4294967295 := by have := NN.y1'; omega
      have b3 : (q : Int) ≤ 4294967298 := by have := dig_bound NN D.eq; omega
      clear m1a m2a m1b m2b m3 m4 q0 q0' hor hL k1 k2 es Y1 Y0 L1 L0
      by_cases h0 : 4294967296 ≤ q ∨ 4294967296 * r + u1 < q * yn0
      · obtain ⟨d1, d2, d3⟩ := dig_down NN D h0
        have h9 : 4294967296 ≤ r + yn1 → q - 1 = Q1 := fun h => by
          have b := dig_break NN d2 h
          rw [← HQ.out]; exact dig_end NN d2 d3 b.2
        have d2' := Lib.hid d2
        have d3' := Lib.hid d3
        have h9' := Lib.hid h9
        clear d2 d3 h9
        have hm : (0 : Int) ≤ (q : Int) * (yn0 : Int) := by rw [mulN]; omega
        have hc : ((q - 1 : Nat) : Int) = (q : Int) - 1 := by omega
        have hc' := Lib.hid hc
        clear hc
        by_cases h1 : (4294967296 : Int) ≤ (q : Int)
        · clear h0
          by_cases h2 : (4294967296 : Int) ≤ (r : Int) + (yn1 : Int)
          · go_wp2_with fail
            go_meet
            case rel => exact ⟨by rw [← h9'.out (by omega), hc'.out], rfl⟩
          · go_wp2_with fail
            go_round
            case rel => exact ⟨q - 1, r + yn1, ⟨d2'.out, by omega, d3'.out⟩, by rw [hc'.out], by simp⟩
            case measure => simp [RowKit.intOf]; omega
        · have h4 : 4294967296 * r + u1 < q * yn0 := by omega
          have h5 : 4294967296 * (r : Int) + (u1 : Int) < (q : Int) * (yn0 : Int) := by rw [mulN]; omega
          have h6 : (q : Int) * (yn0 : Int) ≤ 18446744073709551615 := by
            have := Nat.mul_le_mul (show q ≤ 4294967295 by omega) (show yn0 ≤ 4294967295 by have := NN.y0; omega)
            rw [mulN]; omega
          have h7 : (u1 : Int) ≤ 4294967295 := by have := NN.u1; omega
          have h8 : 1 ≤ (q : Int) := by omega
          clear h0 h4
          by_cases h2 : (4294967296 : Int) ≤ (r : Int) + (yn1 : Int)
          · go_wp2_with fail
            go_meet
            case rel => exact ⟨by rw [← h9'.out (by omega), hc'.out], rfl⟩
          · go_wp2_with fail
            go_round
            case rel => exact ⟨q - 1, r + yn1, ⟨d2'.out, by omega, d3'.out⟩, by rw [hc'.out], by simp⟩
            case measure => simp [RowKit.intOf]; omega
      · have h1 : ¬ (4294967296 : Int) ≤ (q : Int) := by omega
        have h4 : q * yn0 ≤ 4294967296 * r + u1 := by omega
        have h9 : q = Q1 := by rw [← HQ.out]; exact dig_end NN D.eq D.ge h4
        have h5 : (q : Int) * (yn0 : Int) ≤ 4294967296 * (r : Int) + (u1 : Int) := by rw [mulN]; omega
        have h6 : (q : Int) * (yn0 : Int) ≤ 18446744073709551615 := by
          have := Nat.mul_le_mul (show q ≤ 4294967295 by omega) (show yn0 ≤ 4294967295 by have := NN.y0; omega)
          rw [mulN]; omega
        have h7 : (u1 : Int) ≤ 4294967295 := by have := NN.u1; omega
        have hm : (0 : Int) ≤ (q : Int) * (yn0 : Int) := by rw [mulN]; omega
        have h9' := Lib.hid h9
        clear h0 h4 h9
        go_wp2_with fail
        go_meet
        case rel => exact ⟨by rw [h9'.out], rfl⟩
  case rest =>
    obtain ⟨rfl, hw⟩ := hcut
    subst hw
    have hR := hR'.out
    have hR0 := hR0'.out
    have g1 : (Q1 : Int) ≤ 4294967295 := by have := dig_small NN; rw [HQ.out] at this; omega
    have g2 : (Q0 : Int) ≤ 4294967295 := by have := dig_small NN0; rw [HQ0.out] at this; omega
    clear hR' hR0'
    go_upto_block 2 with fail
    clear m1a m2a m1b m2b m3 m4 q0 q0' hor hL k1 k2 es Y1 Y0 L1 L0
    go_cut [18] (fun x wx => x = .int .u64 (Q0 : Int) ∧ wx = wc)
    case first =>
      go_wp2_with fail
      go_loop [18, 16] (fun a b => ∃ q r : Nat, Dig V yn1 u0 Y q r ∧ a = .int .u64 q ∧ b = .int .u64 r) (fun a _ => (RowKit.intOf a).toNat)
      case atStart => exact ⟨p, t, D0, rfl, rfl⟩
      case round =>
        obtain ⟨q, r, D, rfl, rfl⟩ := hrel
        have rl : (r : Int) ≤ 4294967295 := by have := D.lt; omega
        have y1' : (yn1 : Int) ≤ 4294967295 := by have := NN0.y1'; omega
        have b3 : (q : Int) ≤ 4294967298 := by have := dig_bound NN0 D.eq; omega
        clear hR hR0 g1 g2
        by_cases h0 : 4294967296 ≤ q ∨ 4294967296 * r + u0 < q * yn0
        · obtain ⟨d1, d2, d3⟩ := dig_down NN0 D h0
          have h9 : 4294967296 ≤ r + yn1 → q - 1 = Q0 := fun h => by
            have b := dig_break NN0 d2 h
            rw [← HQ0.out]; exact dig_end NN0 d2 d3 b.2
          have d2' := Lib.hid d2
          have d3' := Lib.hid d3
          have h9' := Lib.hid h9
          clear d2 d3 h9
          have hm : (0 : Int) ≤ (q : Int) * (yn0 : Int) := by rw [mulN]; omega
          have hc : ((q - 1 : Nat) : Int) = (q : Int) - 1 := by omega
          have hc' := Lib.hid hc
          clear hc
          by_cases h1 : (4294967296 : Int) ≤ (q : Int)
          · clear h0
            by_cases h2 : (4294967296 : Int) ≤ (r : Int) + (yn1 : Int)
            · go_wp2_with fail
              go_meet
              case rel => exact ⟨by rw [← h9'.out (by omega), hc'.out], rfl⟩
            · go_wp2_with fail
              go_round
              case rel => exact ⟨q - 1, r + yn1, ⟨d2'.out, by omega, d3'.out⟩, by rw [hc'.out], by simp⟩
              case measure => simp [RowKit.intOf]; omega
          · have h4 : 4294967296 * r + u0 < q * yn0 := by omega
            have h5 : 4294967296 * (r : Int) + (u0 : Int) < (q : Int) * (yn0 : Int) := by rw [mulN]; omega
            have h6 : (q : Int) * (yn0 : Int) ≤ 18446744073709551615 := by
              have := Nat.mul_le_mul (show q ≤ 4294967295 by omega) (show yn0 ≤ 4294967295 by have := NN0.y0; omega)
              rw [mulN]; omega
            have h7 : (u0 : Int) ≤ 4294967295 := by have := NN0.u1; omega
            have h8 : 1 ≤ (q : Int) := by omega
            clear h0 h4
            by_cases h2 : (4294967296 : Int) ≤ (r : Int) + (yn1 : Int)
            · go_wp2_with fail
              go_meet
              case rel => exact ⟨by rw [← h9'.out (by omega), hc'.out], rfl⟩
            · go_wp2_with fail
              go_round
              case rel => exact ⟨q - 1, r + yn1, ⟨d2'.out, by omega, d3'.out⟩, by rw [hc'.out], by simp⟩
              case measure => simp [RowKit.intOf]; omega
        · have h1 : ¬ (4294967296 : Int) ≤ (q : Int) := by omega
          have h4 : q * yn0 ≤ 4294967296 * r + u0 := by omega
          have h9 : q = Q0 := by rw [← HQ0.out]; exact dig_end NN0 D.eq D.ge h4
          have h5 : (q : Int) * (yn0 : Int) ≤ 4294967296 * (r : Int) + (u0 : Int) := by rw [mulN]; omega
          have h6 : (q : Int) * (yn0 : Int) ≤ 18446744073709551615 := by
            have := Nat.mul_le_mul (show q ≤ 4294967295 by omega) (show yn0 ≤ 4294967295 by have := NN0.y0; omega)
            rw [mulN]; omega
          have h7 : (u0 : Int) ≤ 4294967295 := by have := NN0.u1; omega
          have hm : (0 : Int) ≤ (q : Int) * (yn0 : Int) := by rw [mulN]; omega
          have h9' := Lib.hid h9
          clear h0 h4 h9
          go_wp2_with fail
          go_meet
          case rel => exact ⟨by rw [h9'.out], rfl⟩
    case rest =>
      obtain ⟨rfl, rfl⟩ := hcut
      go_wp2_with fail
      go_ret2
      exact ⟨rfl, rfl⟩

theorem div64_any (hi lo y : Nat) (hh : hi < y) (hl : lo < 18446744073709551616) (hy : y ≤ 17592186044416) (w : World) :
    Calls Try.prog 49 #[.int .u64 hi, .int .u64 lo, .int .u64 y] w fun e w' => e = .returned (.tuple #[.int .u64 (((hi * 18446744073709551616 + lo) / y : Nat) : Int), .int .u64 (((hi * 18446744073709551616 + lo) % y : Nat) : Int)]) ∧ Dr w w' := by
  by_cases h0 : hi = 0
  · subst h0
    refine (div64_zero lo y hl (by omega) hy w).mono fun e w' h => ⟨?_, h.2⟩
    rw [h.1, Nat.zero_mul, Nat.zero_add]
  · have hp : 0 < y := by omega
    obtain ⟨s, hs⟩ : ∃ s : Nat, s = 64 - Lib.bitLen y := ⟨_, rfl⟩
    obtain ⟨n1, n2, n3, n4, n5, n6, n7, n8⟩ := norm_of hi lo y s hp hy hh hl hs
    have hLL : lo * 2 ^ s % 18446744073709551616 < 18446744073709551616 := Nat.mod_lt _ (by decide)
    have hl1 : lo / 2 ^ (64 - s) < 18446744073709551616 := Nat.lt_of_le_of_lt (Nat.div_le_self _ _) hl
    have hY : 0 < y * 2 ^ s := Nat.mul_pos hp (Nat.two_pow_pos s)
    have hor := orN hi (lo / 2 ^ (64 - s)) s n3 n6 hl1
    rw [← shrN, show (hi : Int) * 2 ^ s = ((hi * 2 ^ s : Nat) : Int) by simp] at hor
    have hL : IntKind.u64.wrap ((lo : Int) * 2 ^ s) = ((lo * 2 ^ s % 18446744073709551616 : Nat) : Int) := by
      rw [show (lo : Int) * 2 ^ s = ((lo * 2 ^ s : Nat) : Int) by simp]; exact wrapM _
    have td := two_digits (hi * 18446744073709551616 + lo) y (hi * 2 ^ s + lo / 2 ^ (64 - s)) (lo * 2 ^ s % 18446744073709551616 / 4294967296) (lo * 2 ^ s % 18446744073709551616 % 4294967296) s hp (by rw [n8]; omega) (by omega)
    have nl1 : lo * 2 ^ s % 18446744073709551616 / 4294967296 < 4294967296 := by omega
    have nl0 : lo * 2 ^ s % 18446744073709551616 % 4294967296 < 4294967296 := by omega
    have ny1 : 2147483648 ≤ y * 2 ^ s / 4294967296 := by omega
    have ny1' : y * 2 ^ s / 4294967296 < 4294967296 := by omega
    have ny0 : y * 2 ^ s % 4294967296 < 4294967296 := by omega
    have nY : y * 2 ^ s = y * 2 ^ s / 4294967296 * 4294967296 + y * 2 ^ s % 4294967296 := by omega
    have hV := Nat.mod_lt ((hi * 2 ^ s + lo / 2 ^ (64 - s)) * 4294967296 + lo * 2 ^ s % 18446744073709551616 / 4294967296) hY
    refine (div64_core hi lo y s (y * 2 ^ s) (hi * 2 ^ s) (hi * 2 ^ s + lo / 2 ^ (64 - s)) (y * 2 ^ s / 4294967296) (y * 2 ^ s % 4294967296)
      (lo * 2 ^ s % 18446744073709551616) (lo * 2 ^ s % 18446744073709551616 / 4294967296) (lo * 2 ^ s % 18446744073709551616 % 4294967296) _ _ _ _
      (by omega) hh hy n1 n2 (by omega) (shlN y s n4) (shlN hi s n3) hor hL (divN _) (maskN _ n4) (divN _) (maskN _ hLL)
      ⟨ny1, ny1', ny0, nl1, n7, nY⟩ ⟨ny1, ny1', ny0, nl0, hV, nY⟩ (Nat.lt_trans n7 n4) (Nat.lt_trans hV n4) rfl rfl (restN _ _ _ hY n4) (restN _ _ _ hY n4) w).mono fun e w' h => ⟨?_, h.2 ▸ ⟨0, rfl⟩⟩
    rw [h.1, ← td.1, ← td.2]
    simp
end Go.Proofs.Ytcdfedkcefhdiaa.Amt
