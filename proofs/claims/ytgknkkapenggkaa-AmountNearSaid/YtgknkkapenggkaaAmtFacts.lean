/- Plain arithmetic about md: what a rounded quotient is. -/
import Derived.Test.YtgknkkapenggkaaAmtMul
namespace Go.Proofs.Ytgknkkapenggkaa.Amt
set_option linter.unusedVariables false

/-- One more if rounded away from zero. -/
def u1 (q r den mode : Int) (neg : Bool) : Int := if upB q r den mode neg = true then 1 else 0
theorem u1_cases (q r den mode : Int) (neg : Bool) : (u1 q r den mode neg = 0 ∧ upB q r den mode neg = false) ∨ (u1 q r den mode neg = 1 ∧ upB q r den mode neg = true) := by
  unfold u1; cases upB q r den mode neg <;> simp

theorem md_facts (a num den mode : Int) (m1 : 1 ≤ mode) (m2 : mode ≤ 5) (hb : ¬ mdBad a num den) (hd : 0 < den) :
    ∃ q r : Int, 0 ≤ q ∧ 0 ≤ r ∧ r < den ∧ (0 ≤ a → a * num = q * den + r) ∧ (a < 0 → a * num = -(q * den + r)) ∧
      md a num den mode = (if 17592186044416 < q + u1 q r den mode (decide (a < 0)) then (0, 3) else (if a < 0 then -(q + u1 q r den mode (decide (a < 0))) else q + u1 q r den mode (decide (a < 0)), 0)) := by
  have hu : 0 ≤ num := by unfold mdBad at hb; omega
  obtain ⟨u, rfl⟩ := Int.eq_ofNat_of_zero_le hu
  obtain ⟨d, rfl⟩ := Int.eq_ofNat_of_zero_le (show 0 ≤ den by omega)
  have hd' : 0 < d := by omega
  refine ⟨((a.natAbs * u / d : Nat) : Int), ((a.natAbs * u % d : Nat) : Int), Int.natCast_nonneg _, Int.natCast_nonneg _, Int.ofNat_lt.2 (Nat.mod_lt _ hd'), ?_, ?_, ?_⟩
  · intro h
    obtain ⟨n, rfl⟩ := Int.eq_ofNat_of_zero_le h
    have := Nat.div_add_mod' (n * u) d
    rw [Int.natAbs_natCast, ← Int.natCast_mul, ← Int.natCast_mul, ← Int.natCast_add, this]
  · intro h
    obtain ⟨n, rfl⟩ : ∃ n : Nat, a = -(n : Int) := ⟨a.natAbs, by omega⟩
    have := Nat.div_add_mod' (n * u) d
    rw [Int.natAbs_neg, Int.natAbs_natCast, Int.neg_mul, ← Int.natCast_mul, ← Int.natCast_mul, ← Int.natCast_add, this]
  · unfold md
    rw [if_neg (by omega), if_neg hb, if_neg (by omega)]
    have hk : mdK a u d mode = ((a.natAbs * u / d : Nat) : Int) + u1 ((a.natAbs * u / d : Nat) : Int) ((a.natAbs * u % d : Nat) : Int) d mode (decide (a < 0)) := by
      unfold mdK u1; simp only [Int.toNat_natCast]; split <;> simp
    rw [hk]

theorem up_pos (q r den mode : Int) (neg : Bool) (hd : 0 < den) (h : upB q r den mode neg = true) : 0 < r := by
  unfold upB at h
  split at h
  · simp at h; omega
  · split at h
    · simp at h; omega
    · split at h
      · simp at h; omega
      · split at h
        · simp at h; omega
        · simp at h

/-- The distance of a rounded quotient from the exact one. -/
structure Near (a num den mode N : Int) : Prop where
  lo : -den < a * num - N * den
  hi : a * num - N * den < den
  zero : mode = 1 → (0 ≤ a → 0 ≤ a * num - N * den) ∧ (a ≤ 0 → a * num - N * den ≤ 0)
  floor : mode = 2 → 0 ≤ a * num - N * den
  ceil : mode = 3 → a * num - N * den ≤ 0
  half : 4 ≤ mode → 2 * (a * num - N * den) ≤ den ∧ -(2 * (a * num - N * den)) ≤ den
  even : mode = 5 → (2 * (a * num - N * den) = den ∨ -(2 * (a * num - N * den)) = den) → N % 2 = 0

theorem near_of (a num den mode N : Int) (m1 : 1 ≤ mode) (m2 : mode ≤ 5) (hb : ¬ mdBad a num den) (hd : 0 < den) (h : md a num den mode = (N, 0)) : Near a num den mode N := by
  obtain ⟨q, r, q0, r0, r1, hp, hn, hm⟩ := md_facts a num den mode m1 m2 hb hd
  have hz : a = 0 → q * den + r = 0 := fun h => by rw [← hp (by omega), h, Int.zero_mul]
  have hqd : 0 ≤ q * den := Int.mul_nonneg q0 (by omega)
  rw [h] at hm
  by_cases ho : 17592186044416 < q + u1 q r den mode (decide (a < 0))
  · rw [if_pos ho] at hm; have := congrArg Prod.snd hm; simp at this
  · rw [if_neg ho] at hm
    have hN := congrArg Prod.fst hm
    simp only at hN
    clear hm h ho
    by_cases ha : a < 0
    · have hp' := hn ha
      rw [if_pos ha] at hN
      simp only [decide_eq_true ha] at hN
      have hD : a * num - N * den = u1 q r den mode true * den - r := by rw [hp', hN, Int.neg_mul, Int.add_mul]; omega
      rcases u1_cases q r den mode true with ⟨e, hu⟩ | ⟨e, hu⟩
      all_goals
        rw [e] at hD hN
        simp only [Int.zero_mul, Int.one_mul] at hD
        have hr := up_pos q r den mode true hd
        rw [hu] at hr
        unfold upB at hu
        refine ⟨?_, ?_, ?_, ?_, ?_, ?_, ?_⟩ <;> rw [hD]
        · first | omega | (have := hr rfl; omega)
        · first | omega | (have := hr rfl; omega)
        · rintro rfl; simp at hu <;> constructor <;> omega
        · rintro rfl; simp at hu <;> omega
        · rintro rfl; simp at hu <;> omega
        · intro h4
          have : mode = 4 ∨ mode = 5 := by omega
          rcases this with rfl | rfl <;> simp at hu <;> constructor <;> omega
        · rintro rfl hh; simp at hu; omega
    · have hp' := hp (by omega)
      rw [if_neg ha] at hN
      simp only [decide_eq_false ha] at hN
      have hD : a * num - N * den = r - u1 q r den mode false * den := by rw [hp', hN, Int.add_mul]; omega
      rcases u1_cases q r den mode false with ⟨e, hu⟩ | ⟨e, hu⟩
      all_goals
        rw [e] at hD hN
        simp only [Int.zero_mul, Int.one_mul] at hD
        have hr := up_pos q r den mode false hd
        rw [hu] at hr
        unfold upB at hu
        refine ⟨?_, ?_, ?_, ?_, ?_, ?_, ?_⟩ <;> rw [hD]
        · first | omega | (have := hr rfl; omega)
        · first | omega | (have := hr rfl; omega)
        · rintro rfl; simp at hu <;> constructor <;> omega
        · rintro rfl; simp at hu <;> omega
        · rintro rfl; simp at hu <;> omega
        · intro h4
          have : mode = 4 ∨ mode = 5 := by omega
          rcases this with rfl | rfl <;> simp at hu <;> constructor <;> omega
        · rintro rfl hh; simp at hu; omega
end Go.Proofs.Ytgknkkapenggkaa.Amt
