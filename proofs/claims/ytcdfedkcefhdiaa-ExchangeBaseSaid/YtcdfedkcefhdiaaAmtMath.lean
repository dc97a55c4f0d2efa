/- Plain arithmetic: normalised long division in two digits of 32 bits, and division digit by binary digit. No program is named here. -/
import Derived.Lib.BitFns
import Derived.Lib.ItoaNum
namespace Go.Proofs.Ytcdfedkcefhdiaa.Amt

/-- Y: the normalised divisor, of the two digits yn1, yn0; u: the rest so far; u1: the next digit of the dividend. -/
structure Norm (u yn1 yn0 u1 Y : Nat) : Prop where
  y1 : 2147483648 ≤ yn1
  y1' : yn1 < 4294967296
  y0 : yn0 < 4294967296
  u1 : u1 < 4294967296
  u : u < Y
  Y : Y = yn1 * 4294967296 + yn0

theorem lin1 {A B u u1 : Nat} (e : A * 4294967296 + B ≤ u * 4294967296 + u1) (h : u1 < 4294967296) : A ≤ u := by omega
theorem lin2 {u u1 Y : Nat} (h1 : u1 < 4294967296) (h : u < Y) : u * 4294967296 + u1 < 4294967296 * Y := by omega
theorem lin3 {A B u u1 r : Nat} (e : A + r = u) (h : 4294967296 * r + u1 < B) : u * 4294967296 + u1 < A * 4294967296 + B := by omega
theorem lin4 {A B u u1 r : Nat} (e : A + r = u) (h : B ≤ 4294967296 * r + u1) : A * 4294967296 + B ≤ u * 4294967296 + u1 := by omega
theorem mulY (q yn1 yn0 : Nat) : q * (yn1 * 4294967296 + yn0) = q * yn1 * 4294967296 + q * yn0 := by rw [Nat.mul_add, Nat.mul_assoc]

/-- The state of the search for a digit: q is not too small, q yn1 + r = u, r below 2^32. -/
structure Dig (u yn1 u1 Y q r : Nat) : Prop where
  eq : q * yn1 + r = u
  lt : r < 4294967296
  ge : (u * 4294967296 + u1) / Y ≤ q

theorem dig_start {u yn1 yn0 u1 Y : Nat} (h : Norm u yn1 yn0 u1 Y) : Dig u yn1 u1 Y (u / yn1) (u % yn1) := by
  have hp : 0 < yn1 := Nat.lt_of_lt_of_le (by decide) h.y1
  have hm := Nat.mod_lt u hp
  refine ⟨by rw [Nat.mul_comm]; exact Nat.div_add_mod u yn1, Nat.lt_trans hm h.y1', ?_⟩
  rw [Nat.le_div_iff_mul_le hp]
  have e : (u * 4294967296 + u1) / Y * Y ≤ u * 4294967296 + u1 := Nat.div_mul_le_self _ _
  generalize (u * 4294967296 + u1) / Y = Q at *
  rw [h.Y, mulY] at e
  exact lin1 e h.u1

/-- The digit itself is below 2^32. -/
theorem dig_small {u yn1 yn0 u1 Y : Nat} (h : Norm u yn1 yn0 u1 Y) : (u * 4294967296 + u1) / Y < 4294967296 :=
  Nat.div_lt_of_lt_mul (by rw [Nat.mul_comm Y]; exact lin2 h.u1 h.u)

/-- If the digit is too great, one less is still enough. -/
theorem dig_down {u yn1 yn0 u1 Y q r : Nat} (h : Norm u yn1 yn0 u1 Y) (d : Dig u yn1 u1 Y q r) (ht : 4294967296 ≤ q ∨ 4294967296 * r + u1 < q * yn0) :
    1 ≤ q ∧ (q - 1) * yn1 + (r + yn1) = u ∧ (u * 4294967296 + u1) / Y ≤ q - 1 := by
  have hlt : (u * 4294967296 + u1) / Y < q := by
    rcases ht with h1 | h1
    · exact Nat.lt_of_lt_of_le (dig_small h) h1
    · refine Nat.div_lt_of_lt_mul ?_
      rw [Nat.mul_comm Y, h.Y, mulY]
      exact lin3 d.eq h1
  generalize (u * 4294967296 + u1) / Y = Q at *
  have e := d.eq
  clear d ht h
  refine ⟨by omega, ?_, by omega⟩
  obtain ⟨k, rfl⟩ : ∃ k, q = k + 1 := ⟨q - 1, by omega⟩
  rw [Nat.add_mul] at e
  show (k + 1 - 1) * yn1 + (r + yn1) = u
  rw [Nat.add_sub_cancel]; omega

/-- A digit that passes the test, or whose rest has left its 32 bits, is the one. -/
theorem dig_end {u yn1 yn0 u1 Y q r : Nat} (h : Norm u yn1 yn0 u1 Y) (e : q * yn1 + r = u) (g : (u * 4294967296 + u1) / Y ≤ q)
    (ht : q * yn0 ≤ 4294967296 * r + u1) : q = (u * 4294967296 + u1) / Y := by
  refine Nat.le_antisymm ?_ g
  rw [Nat.le_div_iff_mul_le (Nat.lt_of_le_of_lt (Nat.zero_le _) h.u), h.Y, mulY]
  exact lin4 e ht

theorem lin5 {A u yn1 yn0 r : Nat} (e : A + r = u) (hr : 4294967296 ≤ r) (h0 : yn0 < 4294967296) (h : u < yn1 * 4294967296 + yn0) : A < 4294967296 * yn1 := by omega
theorem dig_break {u yn1 yn0 u1 Y q r : Nat} (h : Norm u yn1 yn0 u1 Y) (e : q * yn1 + r = u) (hr : 4294967296 ≤ r) : q < 4294967296 ∧ q * yn0 ≤ 4294967296 * r + u1 := by
  have hq : q < 4294967296 := Nat.lt_of_mul_lt_mul_right (lin5 e hr h.y0 (h.Y ▸ h.u))
  refine ⟨hq, ?_⟩
  have : q * yn0 ≤ 4294967296 * r := Nat.mul_le_mul (Nat.le_of_lt hq) (Nat.le_trans (Nat.le_of_lt h.y0) hr)
  exact Nat.le_trans this (Nat.le_add_right _ _)

theorem lin6 {A u yn1 yn0 r : Nat} (e : A + r = u) (h1 : 2147483648 ≤ yn1) (h0 : yn0 < 4294967296) (h : u < yn1 * 4294967296 + yn0) : A < 4294967299 * yn1 := by omega
theorem dig_bound {u yn1 yn0 u1 Y q r : Nat} (h : Norm u yn1 yn0 u1 Y) (e : q * yn1 + r = u) : q ≤ 4294967298 :=
  Nat.le_of_lt_succ (Nat.lt_of_mul_lt_mul_right (lin6 e h.y1 h.y0 (h.Y ▸ h.u)))

/-- The whole quotient out of its two digits; the rest is shifted back. -/
theorem two_digits (n y u u1 u0 s : Nat) (hy : 0 < y) (hn : n * 2 ^ s = u * 18446744073709551616 + u1 * 4294967296 + u0) (_h0 : u0 < 4294967296) :
    let Y := y * 2 ^ s
    let q1 := (u * 4294967296 + u1) / Y
    let r1 := (u * 4294967296 + u1) % Y
    q1 * 4294967296 + (r1 * 4294967296 + u0) / Y = n / y ∧ (r1 * 4294967296 + u0) % Y / 2 ^ s = n % y := by
  intro Y q1 r1
  have hp : 0 < 2 ^ s := Nat.two_pow_pos s
  have hY : 0 < Y := Nat.mul_pos hy hp
  have e1 : q1 * Y + r1 = u * 4294967296 + u1 := Nat.div_add_mod' _ _
  have e0 : (r1 * 4294967296 + u0) / Y * Y + (r1 * 4294967296 + u0) % Y = r1 * 4294967296 + u0 := Nat.div_add_mod' _ _
  have l0 : (r1 * 4294967296 + u0) % Y < Y := Nat.mod_lt _ hY
  generalize (r1 * 4294967296 + u0) / Y = q0 at *
  generalize (r1 * 4294967296 + u0) % Y = r0 at *
  have e : (q1 * 4294967296 + q0) * Y + r0 = n * 2 ^ s := by
    rw [hn, Nat.add_mul, Nat.mul_right_comm]; omega
  have e' : (q1 * 4294967296 + q0) * y * 2 ^ s + r0 = n * 2 ^ s := by rw [Nat.mul_assoc]; exact e
  have hd : 2 ^ s ∣ r0 := by
    have h1 : 2 ^ s ∣ (q1 * 4294967296 + q0) * y * 2 ^ s + r0 := by rw [e']; exact Nat.dvd_mul_left _ _
    exact (Nat.dvd_add_iff_right (Nat.dvd_mul_left _ _)).2 h1
  obtain ⟨t, rfl⟩ := hd
  have ht : (q1 * 4294967296 + q0) * y + t = n := by
    have : ((q1 * 4294967296 + q0) * y + t) * 2 ^ s = n * 2 ^ s := by rw [Nat.add_mul, Nat.mul_comm t]; exact e'
    exact Nat.eq_of_mul_eq_mul_right hp this
  have lt : t < y := by
    have : 2 ^ s * t < 2 ^ s * y := by rw [Nat.mul_comm _ y]; exact l0
    exact Nat.lt_of_mul_lt_mul_left this
  rw [Nat.mul_div_cancel_left _ hp, ← ht]
  constructor
  · rw [Nat.add_comm ((q1 * 4294967296 + q0) * y) t, Nat.add_mul_div_right _ _ hy, Nat.div_eq_of_lt lt]; omega
  · rw [Nat.add_comm ((q1 * 4294967296 + q0) * y) t, Nat.add_mul_mod_self_right, Nat.mod_eq_of_lt lt]

theorem bitLen_bounds (x : Nat) (h : x < 2 ^ 64) (h0 : x ≠ 0) : 1 ≤ Lib.bitLen x ∧ 2 ^ (Lib.bitLen x - 1) ≤ x ∧ x < 2 ^ Lib.bitLen x := Lib.bitLenAux_bounds 64 x h h0

/-- What normalising does: the divisor's highest bit, the dividend's three digits. -/
theorem norm_of (hi lo y s : Nat) (hy : 0 < y) (hy' : y ≤ 17592186044416) (hh : hi < y) (hl : lo < 18446744073709551616) (hs : s = 64 - Lib.bitLen y) :
    19 ≤ s ∧ s ≤ 63 ∧ hi * 2 ^ s < 18446744073709551616 ∧ y * 2 ^ s < 18446744073709551616 ∧ 9223372036854775808 ≤ y * 2 ^ s ∧ lo / 2 ^ (64 - s) < 2 ^ s ∧
      hi * 2 ^ s + lo / 2 ^ (64 - s) < y * 2 ^ s ∧ (hi * 18446744073709551616 + lo) * 2 ^ s = (hi * 2 ^ s + lo / 2 ^ (64 - s)) * 18446744073709551616 + lo * 2 ^ s % 18446744073709551616 := by
  obtain ⟨b1, b2, b3⟩ := bitLen_bounds y (by omega) (by omega)
  have b4 : Lib.bitLen y ≤ 45 := Lib.bitLen_le y 45 (by omega) (by omega)
  generalize Lib.bitLen y = b at *
  have e64 : (18446744073709551616 : Nat) = 2 ^ b * 2 ^ s := by rw [← Nat.pow_add, hs, show b + (64 - b) = 64 by omega]
  have eb : 2 ^ b = 2 * 2 ^ (b - 1) := by
    obtain ⟨k, rfl⟩ : ∃ k, b = k + 1 := ⟨b - 1, by omega⟩
    rw [Nat.add_sub_cancel, Nat.pow_succ, Nat.mul_comm]
  have hp : 0 < 2 ^ s := Nat.two_pow_pos s
  have hb : 64 - s = b := by omega
  have e63 : (9223372036854775808 : Nat) = 2 ^ (b - 1) * 2 ^ s := by
    have : (18446744073709551616 : Nat) = 2 * (2 ^ (b - 1) * 2 ^ s) := by rw [← Nat.mul_assoc, ← eb]; exact e64
    omega
  have y1 : y * 2 ^ s < 18446744073709551616 := by rw [e64]; exact Nat.mul_lt_mul_of_pos_right b3 hp
  have y2 : 9223372036854775808 ≤ y * 2 ^ s := by rw [e63]; exact Nat.mul_le_mul_right _ b2
  have l1 : lo / 2 ^ b < 2 ^ s := by rw [Nat.div_lt_iff_lt_mul (Nat.two_pow_pos b), Nat.mul_comm]; rw [← e64]; exact hl
  have h1 : (hi + 1) * 2 ^ s ≤ y * 2 ^ s := Nat.mul_le_mul_right _ hh
  rw [Nat.add_mul, Nat.one_mul] at h1
  rw [hb]
  refine ⟨by omega, by omega, by omega, y1, y2, l1, by omega, ?_⟩
  have e2 : lo * 2 ^ s = lo / 2 ^ b * 18446744073709551616 + lo * 2 ^ s % 18446744073709551616 := by
    have e3 : lo * 2 ^ s / 18446744073709551616 = lo / 2 ^ b := by rw [e64]; exact Nat.mul_div_mul_right _ _ hp
    have := Nat.div_add_mod (lo * 2 ^ s) 18446744073709551616
    rw [e3] at this; omega
  rw [Nat.add_mul, Nat.add_mul, Nat.mul_right_comm hi]
  omega
end Go.Proofs.Ytcdfedkcefhdiaa.Amt
