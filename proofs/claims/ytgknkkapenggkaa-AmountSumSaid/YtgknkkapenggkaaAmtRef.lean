/- The reference of package amount: division digit by binary digit, and its rounding. -/
import Derived.Test.YtgknkkapenggkaaAmtLeaf
namespace Go.Proofs.Ytgknkkapenggkaa.Amt
open Go.RowKit Go.Lib
set_option linter.unusedVariables false

/-- One binary digit more. -/
theorem digit_step (p c num den : Nat) (hd : 0 < den) : (2 * p + c) * num / den = 2 * (p * num / den) + (2 * (p * num % den) + c * num) / den ∧ (2 * p + c) * num % den = (2 * (p * num % den) + c * num) % den := by
  have e : p * num / den * den + p * num % den = p * num := Nat.div_add_mod' _ _
  have : (2 * p + c) * num = (2 * (p * num % den) + c * num) + 2 * (p * num / den) * den := by
    rw [Nat.add_mul, Nat.mul_assoc, Nat.mul_assoc]; omega
  rw [this, Nat.add_mul_div_right _ _ hd, Nat.add_mul_mod_self_right]
  omega

theorem half_step (a i : Nat) : a / 2 ^ i = 2 * (a / 2 ^ (i + 1)) + a / 2 ^ i % 2 := by
  rw [Nat.pow_succ, ← Nat.div_div_eq_div_mul]; omega

theorem prefix_le (a i num den : Nat) : a / 2 ^ i * num / den ≤ a * num / den :=
  Nat.div_le_div_right (Nat.mul_le_mul_right _ (Nat.div_le_self _ _))

theorem bit_and (x : Nat) : bits .and .i64 (x : Int) 1 = ((x % 2 : Nat) : Int) := by
  have h1 : (BitVec.ofInt 64 1).toNat = 2 ^ 1 - 1 := by decide
  have key : (BitVec.ofInt 64 (x : Int) &&& BitVec.ofInt 64 1).toNat = ((x : Int) % ((2 ^ 64 : Nat) : Int)).toNat % 2 ^ 1 := by
    rw [BitVec.toNat_and, BitVec.toNat_ofInt, h1, Nat.and_two_pow_sub_one_eq_mod]
  show IntKind.i64.wrap ((BitVec.ofInt 64 (x : Int) &&& BitVec.ofInt 64 1).toNat : Nat) = _
  rw [key, IntKind.wrap_i64]
  omega

set_option maxRecDepth 100000 in
set_option maxHeartbeats 400000 in
theorem divide_yes (a num den Q R : Nat) (hQQ : Hid (a * num / den = Q)) (hRR : Hid (a * num % den = R)) (ha : a ≤ 17592186044416) (hn : num ≤ 17592186044416) (hd : 0 < den) (hd' : den ≤ 4503599627370496) (w : World) (hq : a * num / den ≤ 35184372088832) :
    Calls Try.prog 27 #[.int .i64 a, .int .i64 num, .int .i64 den] w fun e w' => e = .returned (.tuple #[.int .i64 (Q : Int), .int .i64 (R : Int), .bool true]) ∧ Dr w w' := by
  have hq' := Lib.hid hq
  have z46 : a / 2 ^ ((45 : Int) + 1).toNat = 0 := by
    show a / 2 ^ 46 = 0
    exact Nat.div_eq_of_lt (Nat.lt_of_le_of_lt ha (by decide))
  clear hq
  have e0 : ((den : Int) == 0) = false := by simp; omega
  go_enter Try.func27, Try.ntmps27
  go_wp2_with fail
  go_loopw [9, 10, 11] (fun x y z wx => ∃ i : Int, -1 ≤ i ∧ i ≤ 45 ∧ z = .int .i64 i ∧ ∃ q r : Nat, Hid (a / 2 ^ (i + 1).toNat * num / den = q) ∧ Hid (a / 2 ^ (i + 1).toNat * num % den = r) ∧ x = .int .i64 q ∧ y = .int .i64 r ∧ Dr w wx) (fun _ _ z _ => (RowKit.intOf z + 1).toNat)
  case atStart => exact ⟨45, by omega, by omega, rfl, 0, 0, Lib.hid (by rw [z46]; simp), Lib.hid (by rw [z46]; simp), rfl, rfl, Dr.refl w⟩
  case round =>
    obtain ⟨i, hi1, hi2, rfl, q, r, hQ, hR, rfl, rfl, hdr⟩ := hrel
    have q1 : (q : Int) ≤ 35184372088832 := by
      have := prefix_le a (i + 1).toNat num den
      rw [hQ.out] at this; have := hq'.out; omega
    have r1 : (r : Int) < den := by have := Nat.mod_lt (a / 2 ^ (i + 1).toNat * num) hd; rw [hR.out] at this; omega
    have hdr' := Lib.hid hdr
    clear hdr
    by_cases hi : 0 ≤ i
    · obtain ⟨k, rfl⟩ := Int.eq_ofNat_of_zero_le hi
      have hb := bit_and (a / 2 ^ k)
      rw [show (((a / 2 ^ k : Nat)) : Int) = (a : Int) / 2 ^ k by simp] at hb
      obtain ⟨c, hc⟩ : ∃ c, a / 2 ^ k % 2 = c := ⟨_, rfl⟩
      rw [hc] at hb
      have hc2 : c < 2 := by omega
      have st := digit_step (a / 2 ^ (k + 1)) c num den hd
      rw [← hc, ← half_step, hc] at st
      have ek : ((k : Int) + 1).toNat = k + 1 := by omega
      rw [ek] at hQ hR
      rw [hQ.out, hR.out] at st
      have lq := prefix_le a k num den
      have lq' := hq'.out
      have st1 := Lib.hid st.1
      have st2 := Lib.hid st.2
      have hQ' : (2 * q + (2 * r + c * num) / den : Nat) ≤ 35184372088832 := by rw [← st.1]; omega
      clear st lq lq' hc
      have hc3 : c = 0 ∨ c = 1 := by omega
      rcases hc3 with rfl | rfl
      all_goals simp only [Nat.zero_mul, Nat.one_mul, Nat.add_zero] at st1 st2 hQ'
      · have c1 : ((2 * r / den : Nat) : Int) = 2 * (r : Int) / (den : Int) := by simp
        have c2 : ((2 * r % den : Nat) : Int) = 2 * (r : Int) % (den : Int) := by simp
        have d1 : (0 : Int) ≤ 2 * (r : Int) / (den : Int) := Int.ediv_nonneg (by omega) (by omega)
        have d2 : 2 * (q : Int) + 2 * (r : Int) / (den : Int) ≤ 35184372088832 := by rw [← c1]; omega
        have c1' := Lib.hid c1
        have c2' := Lib.hid c2
        clear c1 c2 hQ'
        go_wp2_with fail
        go_region
        all_goals go_wp2_with fail
        all_goals go_roundw
        case rel => exact ⟨(k : Int) - 1, by omega, by omega, rfl, 2 * q + 2 * r / den, 2 * r % den, Lib.hid (by rw [show ((k : Int) - 1 + 1).toNat = k by omega]; exact st1.out), Lib.hid (by rw [show ((k : Int) - 1 + 1).toNat = k by omega]; exact st2.out), by rw [Int.natCast_add, c1'.out]; rfl, by rw [c2'.out], hdr'.out.trans ⟨1, rfl⟩⟩
        case measure => simp [RowKit.intOf]
      · have c1 : (((2 * r + num) / den : Nat) : Int) = (2 * (r : Int) + (num : Int)) / (den : Int) := by simp
        have c2 : (((2 * r + num) % den : Nat) : Int) = (2 * (r : Int) + (num : Int)) % (den : Int) := by simp
        have d1 : (0 : Int) ≤ (2 * (r : Int) + (num : Int)) / (den : Int) := Int.ediv_nonneg (by omega) (by omega)
        have d2 : 2 * (q : Int) + (2 * (r : Int) + (num : Int)) / (den : Int) ≤ 35184372088832 := by rw [← c1]; omega
        have c1' := Lib.hid c1
        have c2' := Lib.hid c2
        clear c1 c2 hQ'
        go_wp2_with fail
        go_region
        all_goals go_wp2_with fail
        all_goals go_roundw
        case rel => exact ⟨(k : Int) - 1, by omega, by omega, rfl, 2 * q + (2 * r + num) / den, (2 * r + num) % den, Lib.hid (by rw [show ((k : Int) - 1 + 1).toNat = k by omega]; exact st1.out), Lib.hid (by rw [show ((k : Int) - 1 + 1).toNat = k by omega]; exact st2.out), by rw [Int.natCast_add, c1'.out]; rfl, by rw [c2'.out], hdr'.out.trans ⟨1, rfl⟩⟩
        case measure => simp [RowKit.intOf]
    · obtain rfl : i = -1 := by omega
      have e1 : a / 2 ^ ((-1 : Int) + 1).toNat = a := by show a / 2 ^ 0 = a; simp
      rw [e1] at hQ hR
      clear e1
      go_wp2_with fail
      go_ret3
      exact ⟨by rw [← hQQ.out, ← hRR.out, hQ.out, hR.out]; rfl, hdr'.out⟩

theorem quo_bound (r num den c : Nat) (hd : 0 < den) (hr : r < den) (hn : num ≤ 17592186044416) (hc : c ≤ 1) : (2 * r + c * num) / den ≤ 17592186044418 := by
  have h1 : c * num ≤ 1 * num := Nat.mul_le_mul_right _ hc
  have h2 : 17592186044416 * 1 ≤ 17592186044416 * den := Nat.mul_le_mul_left _ hd
  refine Nat.le_of_lt_succ (Nat.div_lt_of_lt_mul ?_)
  rw [Nat.mul_comm den]
  show 2 * r + c * num < 17592186044419 * den
  omega

set_option maxRecDepth 100000 in
set_option maxHeartbeats 400000 in
theorem divide_no (a num den : Nat) (ha : a ≤ 17592186044416) (hn : num ≤ 17592186044416) (hd : 0 < den) (hd' : den ≤ 4503599627370496) (w : World) (hq : 35184372088832 < a * num / den) :
    Calls Try.prog 27 #[.int .i64 a, .int .i64 num, .int .i64 den] w fun e w' => e = .returned (.tuple #[.int .i64 0, .int .i64 0, .bool false]) ∧ Dr w w' := by
  have hq' := Lib.hid hq
  have z46 : a / 2 ^ ((45 : Int) + 1).toNat = 0 := by
    show a / 2 ^ 46 = 0
    exact Nat.div_eq_of_lt (Nat.lt_of_le_of_lt ha (by decide))
  clear hq
  have e0 : ((den : Int) == 0) = false := by simp; omega
  go_enter Try.func27, Try.ntmps27
  go_wp2_with fail
  go_loopw [9, 10, 11] (fun x y z wx => ∃ i : Int, -1 ≤ i ∧ i ≤ 45 ∧ z = .int .i64 i ∧ ∃ q r : Nat, Hid (a / 2 ^ (i + 1).toNat * num / den = q) ∧ Hid (a / 2 ^ (i + 1).toNat * num % den = r) ∧ q ≤ 35184372088832 ∧ x = .int .i64 q ∧ y = .int .i64 r ∧ Dr w wx) (fun _ _ z _ => (RowKit.intOf z + 1).toNat)
  case atStart => exact ⟨45, by omega, by omega, rfl, 0, 0, Lib.hid (by rw [z46]; simp), Lib.hid (by rw [z46]; simp), by omega, rfl, rfl, Dr.refl w⟩
  case round =>
    obtain ⟨i, hi1, hi2, rfl, q, r, hQ, hR, q0, rfl, rfl, hdr⟩ := hrel
    have q1 : (q : Int) ≤ 35184372088832 := by omega
    have r0 : r < den := by have := Nat.mod_lt (a / 2 ^ (i + 1).toNat * num) hd; rw [hR.out] at this; exact this
    have r1 : (r : Int) < den := by omega
    have hdr' := Lib.hid hdr
    clear hdr
    by_cases hi : 0 ≤ i
    · obtain ⟨k, rfl⟩ := Int.eq_ofNat_of_zero_le hi
      have hb := bit_and (a / 2 ^ k)
      rw [show (((a / 2 ^ k : Nat)) : Int) = (a : Int) / 2 ^ k by simp] at hb
      obtain ⟨c, hc⟩ : ∃ c, a / 2 ^ k % 2 = c := ⟨_, rfl⟩
      rw [hc] at hb
      have hc2 : c < 2 := by omega
      have st := digit_step (a / 2 ^ (k + 1)) c num den hd
      rw [← hc, ← half_step, hc] at st
      have ek : ((k : Int) + 1).toNat = k + 1 := by omega
      rw [ek] at hQ hR
      rw [hQ.out, hR.out] at st
      have qb := quo_bound r num den c hd r0 hn (by omega)
      have st1 := Lib.hid st.1
      have st2 := Lib.hid st.2
      clear st hc r0
      have hc3 : c = 0 ∨ c = 1 := by omega
      rcases hc3 with rfl | rfl
      all_goals simp only [Nat.zero_mul, Nat.one_mul, Nat.add_zero] at st1 st2 qb
      · have c1 : ((2 * r / den : Nat) : Int) = 2 * (r : Int) / (den : Int) := by simp
        have c2 : ((2 * r % den : Nat) : Int) = 2 * (r : Int) % (den : Int) := by simp
        have d1 : (0 : Int) ≤ 2 * (r : Int) / (den : Int) := Int.ediv_nonneg (by omega) (by omega)
        have d2 : 2 * (r : Int) / (den : Int) ≤ 17592186044418 := by rw [← c1]; omega
        by_cases hle : 2 * (q : Int) + 2 * (r : Int) / (den : Int) ≤ 35184372088832
        · have hle' := Lib.hid (show 2 * q + 2 * r / den ≤ 35184372088832 by rw [← c1] at hle; omega)
          have c1' := Lib.hid c1
          have c2' := Lib.hid c2
          clear c1 c2 qb
          go_wp2_with fail
          go_region
          all_goals go_wp2_with fail
          all_goals go_roundw
          case rel => exact ⟨(k : Int) - 1, by omega, by omega, rfl, 2 * q + 2 * r / den, 2 * r % den, Lib.hid (by rw [show ((k : Int) - 1 + 1).toNat = k by omega]; exact st1.out), Lib.hid (by rw [show ((k : Int) - 1 + 1).toNat = k by omega]; exact st2.out), hle'.out, by rw [Int.natCast_add, c1'.out]; rfl, by rw [c2'.out], hdr'.out.trans ⟨1, rfl⟩⟩
          case measure => simp [RowKit.intOf]
        · have c1' := Lib.hid c1
          have c2' := Lib.hid c2
          clear c1 c2 qb
          go_wp2_with fail
          go_region
          all_goals go_wp2_with fail
          all_goals (go_ret3; exact ⟨rfl, hdr'.out.trans ⟨1, rfl⟩⟩)
      · have c1 : (((2 * r + num) / den : Nat) : Int) = (2 * (r : Int) + (num : Int)) / (den : Int) := by simp
        have c2 : (((2 * r + num) % den : Nat) : Int) = (2 * (r : Int) + (num : Int)) % (den : Int) := by simp
        have d1 : (0 : Int) ≤ (2 * (r : Int) + (num : Int)) / (den : Int) := Int.ediv_nonneg (by omega) (by omega)
        have d2 : (2 * (r : Int) + (num : Int)) / (den : Int) ≤ 17592186044418 := by rw [← c1]; omega
        by_cases hle : 2 * (q : Int) + (2 * (r : Int) + (num : Int)) / (den : Int) ≤ 35184372088832
        · have hle' := Lib.hid (show 2 * q + (2 * r + num) / den ≤ 35184372088832 by rw [← c1] at hle; omega)
          have c1' := Lib.hid c1
          have c2' := Lib.hid c2
          clear c1 c2 qb
          go_wp2_with fail
          go_region
          all_goals go_wp2_with fail
          all_goals go_roundw
          case rel => exact ⟨(k : Int) - 1, by omega, by omega, rfl, 2 * q + (2 * r + num) / den, (2 * r + num) % den, Lib.hid (by rw [show ((k : Int) - 1 + 1).toNat = k by omega]; exact st1.out), Lib.hid (by rw [show ((k : Int) - 1 + 1).toNat = k by omega]; exact st2.out), hle'.out, by rw [Int.natCast_add, c1'.out]; rfl, by rw [c2'.out], hdr'.out.trans ⟨1, rfl⟩⟩
          case measure => simp [RowKit.intOf]
        · have c1' := Lib.hid c1
          have c2' := Lib.hid c2
          clear c1 c2 qb
          go_wp2_with fail
          go_region
          all_goals go_wp2_with fail
          all_goals (go_ret3; exact ⟨rfl, hdr'.out.trans ⟨1, rfl⟩⟩)
    · obtain rfl : i = -1 := by omega
      have e1 : a / 2 ^ ((-1 : Int) + 1).toNat = a := by show a / 2 ^ 0 = a; simp
      rw [e1] at hQ
      exfalso
      have := hQ.out; have := hq'.out; omega

/-! The rounding. -/
def upB (q r den mode : Int) (neg : Bool) : Bool :=
  if mode = 2 then neg && decide (0 < r) else if mode = 3 then !neg && decide (0 < r) else if mode = 4 then decide (den ≤ 2 * r)
  else if mode = 5 then decide (den < 2 * r) || (decide (2 * r = den) && (q % 2 == 1)) else false

theorem up_any (q r den mode : Int) (neg : Bool) (w : World) (h0 : 0 ≤ q) (h1 : q ≤ 35184372088832) (h2 : 0 ≤ r) (h3 : r < den) (h4 : den ≤ 4503599627370496) :
    Calls Try.prog 28 #[.int .i64 q, .int .i64 r, .int .i64 den, .int .i64 mode, .bool neg] w fun e w' => e = .returned (.bool (upB q r den mode neg)) ∧ w = w' := by
  unfold upB
  by_cases m2 : mode = 2
  · subst m2
    cases neg
    all_goals
      go_enter Try.func28, Try.ntmps28
      go_wp2
      all_goals (go_ret; exact ⟨by simp, rfl⟩)
  · by_cases m3 : mode = 3
    · subst m3
      cases neg
      all_goals
        go_enter Try.func28, Try.ntmps28
        go_wp2
        all_goals (go_ret; exact ⟨by simp, rfl⟩)
    · by_cases m4 : mode = 4
      · subst m4
        go_enter Try.func28, Try.ntmps28
        go_wp2
        all_goals (go_ret; exact ⟨by simp, rfl⟩)
      · by_cases m5 : mode = 5
        · subst m5
          go_enter Try.func28, Try.ntmps28
          go_wp2
          all_goals (go_ret; exact ⟨by simp [*], rfl⟩)
        · have n2 : (mode == 2) = false := by simp [m2]
          have n3 : (mode == 3) = false := by simp [m3]
          have n4 : (mode == 4) = false := by simp [m4]
          have n5 : (mode == 5) = false := by simp [m5]
          rw [if_neg m2, if_neg m3, if_neg m4, if_neg m5]
          clear m2 m3 m4 m5
          go_enter Try.func28, Try.ntmps28
          go_wp2
          all_goals (go_ret; exact ⟨rfl, rfl⟩)
end Go.Proofs.Ytgknkkapenggkaa.Amt
