/- The walk of ExchangeBase. -/
import Derived.Test.YtcdfedkcefhdiaaExcLaw0
import Derived.Test.YtcdfedkcefhdiaaExcRate
namespace Go.Proofs.Ytcdfedkcefhdiaa.Exc
open Go.RowKit Go.Lib Go.Proofs.Ytcdfedkcefhdiaa.Bas Go.Proofs.Ytcdfedkcefhdiaa.Spl
set_option linter.unusedVariables false

/-- x by y, the half upward. -/
def halfUp (x y : Nat) : Nat := (2 * x + y) / (2 * y)
theorem half_back (n P : Nat) (h : 1000000 ≤ P) : halfUp (halfUp (n * P) 1000000 * 1000000) P = n := by
  have h1 : 2000000 * halfUp (n * P) 1000000 ≤ 2 * (n * P) + 1000000 ∧ 2 * (n * P) + 1000000 < 2000000 * (halfUp (n * P) 1000000 + 1) := by
    unfold halfUp; omega
  have h2 : P = 1000000 → halfUp (n * P) 1000000 = n := fun e => by subst e; unfold halfUp; omega
  generalize halfUp (n * P) 1000000 = a at *
  unfold halfUp
  have e1 : n * (2 * P) = 2 * (n * P) := by rw [Nat.mul_left_comm]
  have e2 : (n + 1) * (2 * P) = 2 * (n * P) + 2 * P := by rw [Nat.add_mul, e1, Nat.one_mul]
  have e3 : (n + 1) * P = n * P + P := by rw [Nat.add_mul, Nat.one_mul]
  apply Nat.div_eq_of_lt_le
  · rw [e1]; omega
  · rw [e2]
    by_cases e : P = 1000000
    · have := h2 e; subst this; subst e; omega
    · omega
theorem half_bd (n P : Nat) (hn : n ≤ 1073741824) (hP : P ≤ 1000000000) : halfUp (n * P) 1000000 ≤ 1073741824000 := by
  have := Nat.mul_le_mul hn hP
  unfold halfUp; omega

def wi (x n : Int) : Int := (x.tmod n + n) % n
theorem wi_bd (x n : Int) (h : 0 < n) : 0 ≤ wi x n ∧ wi x n < n := ⟨Int.emod_nonneg _ (by omega), Int.emod_lt_of_pos _ h⟩
theorem within_any (x n : Int) (w : World) (x1 : -9223372036854775808 ≤ x) (x2 : x ≤ 9223372036854775807) (hn : 0 < n) (hn2 : n ≤ 17592186044416) :
    Calls Try.prog 17 #[.int .i64 x, .int .i64 n] w fun e w' => e = .returned (.int .i64 (wi x n)) ∧ w = w' := by
  have t3 : (n == 0) = false := by simp; omega
  have hb1 := Int.lt_tmod_of_pos x hn
  have hb2 := Int.tmod_lt_of_pos x hn
  go_enter Try.func17, Try.ntmps17
  go_wp2
  go_ret
  exact ⟨rfl, rfl⟩

/-- The function f is Convert, for a table of one rate. -/
def BaseOf (f : Nat) : Prop := ∀ (v : Value) (P n : Nat) (w : World), RatesAt w v [⟨2, 0, P⟩] → 1000000 ≤ P → P ≤ 1000000000 → n ≤ 1073741824000 →
  (n ≤ 1073741824 → Calls Try.prog f #[v, .agg #[.int .i64 2, .int .i64 n], .int .i64 0, .int .i64 5] w (NumOut ((halfUp (n * P) 1000000 : Nat) : Int) 0 w)) ∧
  Calls Try.prog f #[v, .agg #[.int .i64 0, .int .i64 n], .int .i64 2, .int .i64 5] w (NumOut ((halfUp (n * 1000000) P : Nat) : Int) 0 w)

set_option maxHeartbeats 4000000 in
theorem base_any (hC : Hid (BaseOf 18)) (hA : Hid (AwakeOf 9)) (a b : Int) (w : World) (ha : (Lit.int .i64 a).wf = true) (hb : (Lit.int .i64 b).wf = true) :
    Calls Try.prog 5 #[.int .i64 a, .int .i64 b] w (BoolBe true w) := by
  have c1 := Lib.hid (within_any a 999000001 w (Go.bounds_i64 ha).1 (Go.bounds_i64 ha).2 (by omega) (by omega))
  have c2 := Lib.hid (fun w => within_any b 1073741825 w (Go.bounds_i64 hb).1 (Go.bounds_i64 hb).2 (by omega) (by omega))
  have b1 := wi_bd a 999000001 (by omega)
  have b2 := wi_bd b 1073741825 (by omega)
  generalize wi a 999000001 = x at *
  generalize wi b 1073741825 = y at *
  obtain ⟨P, hP⟩ : ∃ P : Nat, (1000000 : Int) + x = P := ⟨(1000000 + x).toNat, by omega⟩
  obtain ⟨n, rfl⟩ : ∃ n : Nat, y = n := ⟨y.toNat, by omega⟩
  have hP1 : 1000000 ≤ P := by omega
  have hP2 : P ≤ 1000000000 := by omega
  have hn : n ≤ 1073741824 := by omega
  have hP' := Lib.hid hP
  have hback := Lib.hid (half_back n P hP1)
  have hbd := half_bd n P hn hP2
  have hone := Lib.hid (rate_one w ⟨2, 0, (P : Int)⟩)
  have B0 := Lib.hid (alloc1 w (.cells #[.int .i64 2, .int .i64 0, .int .i64 (P : Int)] 35))
  clear b2 ha hb
  have hx1 := b1.1
  have hx2 := b1.2
  clear b1 hP
  go_enter Try.func5, Try.ntmps5
  go_wp2_with fail
  refine c1.out.mono ?_; rintro e w' ⟨rfl, rfl⟩
  go_wp2_with fail
  rw [hP'.out]
  have c3 := Lib.hid (hC.out _ P n _ hone.out hP1 hP2 (by omega))
  generalize w.alloc (.cells #[.int .i64 2, .int .i64 0, .int .i64 (P : Int)] 35) = W1 at *
  refine (c2.out _).mono ?_; rintro e w' ⟨rfl, rfl⟩
  go_wp2_with fail
  refine (c3.out.1 hn).mono ?_; rintro e W2 ⟨rfl, hB⟩
  have B2 := Lib.hid (trans_at B0.out hB)
  have c4 := Lib.hid ((hC.out _ P _ W2 (hone.out.below hB) hP1 hP2 hbd).2)
  rw [hback.out] at c4
  generalize halfUp (n * P) 1000000 = m at *
  clear hB c3 c2 c1 hC
  go_wp2_with fail
  refine c4.out.mono ?_; rintro e W3 ⟨rfl, hB⟩
  have B3 := Lib.hid (trans_at B2.out hB)
  have t1 : ((n : Int) == (n : Int)) = true := by simp
  have hAw := Lib.hid (hA.out W3)
  clear hB c4 B2 hone hA
  go_wp2_with fail
  refine hAw.out.mono ?_; rintro e W4 ⟨rfl, hB⟩
  have hfin := Lib.hid (show BoolBe true w (.returned (.bool true)) W4 from ⟨rfl, trans_at B3.out hB⟩)
  clear hB hAw B3
  go_wp2_with fail
  go_ret
  exact hfin.out
end Go.Proofs.Ytcdfedkcefhdiaa.Exc
