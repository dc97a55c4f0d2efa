/- Plain arithmetic about md: opposite amounts, exact quotients, order. -/
import Derived.Test.YtgknkkapenggkaaAmtFacts
namespace Go.Proofs.Ytgknkkapenggkaa.Amt
set_option linter.unusedVariables false

/-- The mode that rounds the opposite amount to the opposite quotient. -/
def opp (m : Int) : Int := if m = 2 then 3 else if m = 3 then 2 else m
theorem upB_opp (q r den m : Int) (neg : Bool) : upB q r den (opp m) (!neg) = upB q r den m neg := by
  unfold opp upB
  by_cases h2 : m = 2
  · subst h2; simp
  · by_cases h3 : m = 3
    · subst h3; simp
    · simp [h2, h3]
theorem upB_zero (q den m : Int) (neg : Bool) (hd : 0 < den) : upB q 0 den m neg = false := by
  cases h : upB q 0 den m neg
  · rfl
  · have := up_pos q 0 den m neg hd h; omega

theorem md_opp (a num den m N E : Int) (m1 : 1 ≤ m) (m2 : m ≤ 5) (hb : ¬ mdBad a num den) (h : md a num den m = (N, E)) : md (-a) num den (opp m) = (-N, E) := by
  have hb' : ¬ mdBad (-a) num den := by unfold mdBad at hb ⊢; omega
  have o1 : 1 ≤ opp m ∧ opp m ≤ 5 := by unfold opp; split <;> (try split) <;> omega
  by_cases hd : den = 0
  · subst hd
    unfold md at h ⊢
    rw [if_neg (by omega), if_neg hb, if_pos rfl] at h
    rw [if_neg (by omega), if_neg hb', if_pos rfl]
    cases h; rfl
  · have hd' : 0 < den := by unfold mdBad at hb; omega
    have hk : mdK (-a) num den (opp m) = mdK a num den m := by
      by_cases ha : a = 0
      · subst ha
        unfold mdK
        simp only [Int.neg_zero, Int.natAbs_zero, Nat.zero_mul, Nat.zero_mod, Nat.zero_div]
        rw [show ((0 : Nat) : Int) = 0 from rfl, upB_zero _ _ _ _ hd', upB_zero _ _ _ _ hd']
      · unfold mdK
        rw [Int.natAbs_neg, show decide (-a < 0) = !decide (a < 0) by by_cases h : a < 0 <;> simp [h] <;> omega, upB_opp]
    have kz : a = 0 → mdK a num den m = 0 := by
      rintro rfl
      unfold mdK
      simp only [Int.natAbs_zero, Nat.zero_mul, Nat.zero_mod, Nat.zero_div]
      rw [show ((0 : Nat) : Int) = 0 from rfl, upB_zero _ _ _ _ hd']; rfl
    unfold md at h ⊢
    rw [if_neg (by omega), if_neg hb, if_neg hd] at h
    rw [if_neg (by omega), if_neg hb', if_neg hd, hk]
    by_cases ho : 17592186044416 < mdK a num den m
    · rw [if_pos ho] at h ⊢; cases h; rfl
    · rw [if_neg ho] at h ⊢
      obtain ⟨h1, h2⟩ := Prod.mk.inj h
      subst h1; subst h2
      congr 1
      split <;> split <;> omega

/-- An exact quotient is not rounded. -/
theorem md_exact (a num den m b : Int) (m1 : 1 ≤ m) (m2 : m ≤ 5) (hb : ¬ mdBad a num den) (hd : 0 < den) (h : a * num = b * den) (b1 : -17592186044416 ≤ b) (b2 : b ≤ 17592186044416) (hs1 : 0 ≤ a → 0 ≤ b) (hs2 : a < 0 → b ≤ 0) :
    md a num den m = (b, 0) := by
  obtain ⟨q, r, q0, r0, r1, hp, hn, hm⟩ := md_facts a num den m m1 m2 hb hd
  have key : ∀ c : Int, q * den + r = c * den → q = c ∧ r = 0 := by
    intro c hc
    have h1 : (c - q) * den = r := by rw [Int.sub_mul]; omega
    have h2 : c - q = 0 := by
      rcases Int.lt_trichotomy (c - q) 0 with h | h | h
      · have : (c - q) * den ≤ -1 * den := Int.mul_le_mul_of_nonneg_right (by omega) (by omega)
        omega
      · exact h
      · have : 1 * den ≤ (c - q) * den := Int.mul_le_mul_of_nonneg_right (by omega) (by omega)
        omega
    rw [h2, Int.zero_mul] at h1
    exact ⟨by omega, by omega⟩
  by_cases ha : a < 0
  · have e := hn ha
    obtain ⟨rfl, rfl⟩ := key (-b) (by rw [Int.neg_mul]; omega)
    rw [hm]
    have : u1 (-b) 0 den m (decide (a < 0)) = 0 := by unfold u1; rw [upB_zero _ _ _ _ hd]; rfl
    rw [this, if_neg (by omega), if_pos ha]; simp
  · have e := hp (by omega)
    obtain ⟨rfl, rfl⟩ := key b (by omega)
    rw [hm]
    have : u1 q 0 den m (decide (a < 0)) = 0 := by unfold u1; rw [upB_zero _ _ _ _ hd]; rfl
    rw [this, if_neg (by omega), if_neg ha]; simp

theorem md_sign (a num den m N : Int) (m1 : 1 ≤ m) (m2 : m ≤ 5) (hb : ¬ mdBad a num den) (hd : 0 < den) (h : md a num den m = (N, 0)) : (0 ≤ a → 0 ≤ N) ∧ (a ≤ 0 → N ≤ 0) := by
  obtain ⟨q, r, q0, r0, r1, hp, hn, hm⟩ := md_facts a num den m m1 m2 hb hd
  rw [h] at hm
  have hu := u1_cases q r den m (decide (a < 0))
  by_cases ho : 17592186044416 < q + u1 q r den m (decide (a < 0))
  · rw [if_pos ho] at hm; have := congrArg Prod.snd hm; simp at this
  · rw [if_neg ho] at hm
    have hN := congrArg Prod.fst hm
    simp only at hN
    by_cases ha : a < 0
    · rw [if_pos ha] at hN; exact ⟨by omega, by omega⟩
    · rw [if_neg ha] at hN
      refine ⟨by omega, fun h9 => ?_⟩
      have ha0 : a = 0 := by omega
      have e := md_exact a num den m 0 m1 m2 hb hd (by rw [ha0]; simp) (by omega) (by omega) (by omega) (by omega)
      have := congrArg Prod.fst (e.symm.trans h)
      simp only at this; omega

/-- A greater amount has no smaller quotient. -/
theorem md_mono (a b num den m N M : Int) (m1 : 1 ≤ m) (m2 : m ≤ 5) (ha : ¬ mdBad a num den) (hb : ¬ mdBad b num den) (hd : 0 < den) (hab : a ≤ b) (h : md a num den m = (N, 0)) (k : md b num den m = (M, 0)) : N ≤ M := by
  have na := near_of a num den m N m1 m2 ha hd h
  have nb := near_of b num den m M m1 m2 hb hd k
  have sa := md_sign a num den m N m1 m2 ha hd h
  have sb := md_sign b num den m M m1 m2 hb hd k
  have hu : 0 ≤ num := by unfold mdBad at hb; omega
  have hp : a * num ≤ b * num := Int.mul_le_mul_of_nonneg_right hab hu
  refine Int.not_lt.1 fun hlt => ?_
  have hq : (M + 1) * den ≤ N * den := Int.mul_le_mul_of_nonneg_right (by omega) (by omega)
  rw [Int.add_mul, Int.one_mul] at hq
  obtain ⟨l1, l2, z1, f1, c1, h1, e1⟩ := na
  obtain ⟨k1, k2, z2, f2, c2, h2, e2⟩ := nb
  have hm : m = 1 ∨ m = 2 ∨ m = 3 ∨ 4 ≤ m := by omega
  rcases hm with rfl | rfl | rfl | h4
  · have z1 := z1 rfl; have z2 := z2 rfl
    by_cases a0 : 0 ≤ a
    · have := z1.1 a0; have := z2.1 (by omega); omega
    · by_cases b0 : 0 ≤ b
      · have := sa.2 (by omega); have := sb.1 b0; omega
      · have := z1.2 (by omega); have := z2.2 (by omega); omega
  · have := f1 rfl; have := f2 rfl; omega
  · have := c1 rfl; have := c2 rfl; omega
  · have h1 := h1 h4; have h2 := h2 h4
    -- both at a half: the products are the same
    have e : a * num = b * num := by omega
    have e2 : (b - a) * num = 0 := by rw [Int.sub_mul]; omega
    rcases Int.mul_eq_zero.1 e2 with e3 | e3
    · have : a = b := by omega
      subst this
      rw [h] at k; have := congrArg Prod.fst k; simp at this; omega
    · have e4 : a * num = 0 := by rw [e3]; simp
      have e5 : b * num = 0 := by rw [e3]; simp
      have x1 := md_exact a num den m 0 m1 m2 ha hd (by rw [e4]; simp) (by omega) (by omega) (by omega) (by omega)
      have x2 := md_exact b num den m 0 m1 m2 hb hd (by rw [e5]; simp) (by omega) (by omega) (by omega) (by omega)
      rw [x1] at h; rw [x2] at k
      have := congrArg Prod.fst h; have := congrArg Prod.fst k; simp at *; omega

theorem upB_2 (q r den : Int) : upB q r den 2 false = false := by unfold upB; simp
theorem upB_1 (q r den : Int) : upB q r den 1 false = false := by unfold upB; simp
theorem upB_54 (q r den : Int) (h : upB q r den 5 false = true) : upB q r den 4 false = true := by unfold upB at *; simp at *; omega
theorem upB_43 (q r den : Int) (hd : 0 < den) (h : upB q r den 4 false = true) : upB q r den 3 false = true := by unfold upB at *; simp at *; omega

/-- The ways of rounding an amount that is not negative, in their order. -/
def modeAt (k : Nat) : Int := if k = 0 then 2 else if k = 1 then 1 else if k = 2 then 5 else if k = 3 then 4 else 3
theorem modes_order (a num den : Int) (k : Nat) (hk : k < 4) (ha : 0 ≤ a) (hb : ¬ mdBad a num den) (hd : 0 < den) (N M : Int) (h : md a num den (modeAt k) = (N, 0)) (h' : md a num den (modeAt (k + 1)) = (M, 0)) : N ≤ M := by
  have mm : ∀ j, 1 ≤ modeAt j ∧ modeAt j ≤ 5 := by intro j; unfold modeAt; repeat (first | omega | split)
  have hq : ∀ j L, md a num den (modeAt j) = (L, 0) → L = (a.natAbs * num.toNat / den.toNat : Nat) + u1 ((a.natAbs * num.toNat / den.toNat : Nat) : Int) ((a.natAbs * num.toNat % den.toNat : Nat) : Int) den (modeAt j) false := by
    intro j L hL
    unfold md at hL
    rw [if_neg (by have := mm j; omega), if_neg hb, if_neg (by omega)] at hL
    split at hL
    · have := congrArg Prod.snd hL; simp at this
    · rw [if_neg (by omega)] at hL
      have := congrArg Prod.fst hL
      simp only at this
      rw [← this]
      unfold mdK u1
      rw [decide_eq_false (by omega)]
      split <;> simp
  rw [hq k N h, hq (k + 1) M h']
  generalize ((a.natAbs * num.toNat / den.toNat : Nat) : Int) = q
  generalize ((a.natAbs * num.toNat % den.toNat : Nat) : Int) = r
  have c1 := u1_cases q r den (modeAt k) false
  have c2 := u1_cases q r den (modeAt (k + 1)) false
  have : k = 0 ∨ k = 1 ∨ k = 2 ∨ k = 3 := by omega
  rcases this with rfl | rfl | rfl | rfl
  · rw [show modeAt 0 = 2 from rfl] at *
    rw [upB_2] at c1; simp at c1; omega
  · rw [show modeAt 1 = 1 from rfl] at *
    rw [upB_1] at c1; simp at c1; omega
  · rw [show modeAt 2 = 5 from rfl, show modeAt (2 + 1) = 4 from rfl] at *
    have := upB_54 q r den
    rcases c1 with ⟨x, y⟩ | ⟨x, y⟩
    · omega
    · rw [this y] at c2; simp at c2; omega
  · rw [show modeAt 3 = 4 from rfl, show modeAt (3 + 1) = 3 from rfl] at *
    have := upB_43 q r den hd
    rcases c1 with ⟨x, y⟩ | ⟨x, y⟩
    · omega
    · rw [this y] at c2; simp at c2; omega

theorem md_bd (a num den m N E : Int) (h : md a num den m = (N, E)) : -17592186044416 ≤ N ∧ N ≤ 17592186044416 ∧ 0 ≤ E ∧ E ≤ 11 := by
  have k0 : 0 ≤ mdK a num den m := by
    unfold mdK
    generalize (a.natAbs * num.toNat / den.toNat) = x
    split <;> omega
  unfold md at h
  by_cases h1 : m < 1 ∨ 5 < m
  · rw [if_pos h1] at h; cases h; omega
  · rw [if_neg h1] at h
    by_cases h2 : mdBad a num den
    · rw [if_pos h2] at h; cases h; omega
    · rw [if_neg h2] at h
      by_cases h3 : den = 0
      · rw [if_pos h3] at h; cases h; omega
      · rw [if_neg h3] at h
        by_cases h4 : 17592186044416 < mdK a num den m
        · rw [if_pos h4] at h; cases h; omega
        · rw [if_neg h4] at h
          obtain ⟨h5, h6⟩ := Prod.mk.inj h
          subst h6; subst h5
          split <;> omega
end Go.Proofs.Ytgknkkapenggkaa.Amt
