/- Package exchange keeps stage 4's contracts: the walks of its statements. -/
import Derived.Test.YtcdfedkcefhdiaaExcConv
import Derived.Test.YtcdfedkcefhdiaaExcBal
import Derived.Test.YtcdfedkcefhdiaaExcShuf
import Derived.Test.YtcdfedkcefhdiaaExcOrd
namespace Go.Proofs.Ytcdfedkcefhdiaa.Exc
open Go.RowKit Go.Lib Go.Proofs.Ytcdfedkcefhdiaa.Bas Go.Proofs.Ytcdfedkcefhdiaa.Spl Go.Proofs.Ytcdfedkcefhdiaa.Dk
set_option linter.unusedVariables false

theorem rates_single (c f P : Int) (hc : 1 ≤ c ∧ c ≤ 15) (hf : 0 ≤ f ∧ f ≤ 876599) (h1 : 1 ≤ P) (h2 : P ≤ 1000000000) : ratesV [⟨c, f, P⟩] = 0 := by
  unfold ratesV
  rw [if_neg (by simp)]
  show (if fst0 (re [⟨c, f, P⟩]) 0 = 0 then re [⟨c, f, P⟩] 0 else fst0 (re [⟨c, f, P⟩]) 0) = 0
  rw [if_pos (show fst0 (re [⟨c, f, P⟩]) 0 = 0 from rfl)]
  unfold re
  rw [if_neg, if_neg, if_neg]
  · omega
  · show ¬ (f < 0 ∨ 876599 < f ∨ P < 1 ∨ 1000000000 < P); omega
  · show ¬ (c < 1 ∨ 15 < c); omega
theorem pu_base (l : List Rt) (hr : Int) : PU l 0 hr = (1000000, 0) := by unfold PU; rw [if_pos rfl]
theorem pu_single (c f P hr : Int) (hc : 1 ≤ c) (hf : f ≤ hr) (h1 : 1 ≤ P) : PU [⟨c, f, P⟩] c hr = (P, 0) := by
  have e : lastP [⟨c, f, P⟩] c hr 1 = P := if_pos ⟨rfl, hf⟩
  have e2 : lastP [⟨c, f, P⟩] c hr [(⟨c, f, P⟩ : Rt)].length = P := e
  unfold PU
  rw [if_neg (by omega), e2, if_neg (by omega)]
theorem md_half (n x y : Nat) (hn : n ≤ 17592186044416) (hx : x ≤ 17592186044416) (hy0 : 0 < y) (hy : y ≤ 17592186044416) (hb : halfUp (n * x) y ≤ 17592186044416) : Amt.md n x y 4 = (((halfUp (n * x) y : Nat) : Int), 0) := by
  have hk : Amt.mdK n x y 4 = (halfUp (n * x) y : Nat) := by
    have hu : ∀ (q r den : Int) (neg : Bool), Amt.upB q r den 4 neg = decide (den ≤ 2 * r) := fun q r den neg => by unfold Amt.upB; simp
    unfold Amt.mdK
    simp only [Int.natAbs_natCast, Int.toNat_natCast, hu]
    have e : n * x = y * (n * x / y) + n * x % y := (Nat.div_add_mod _ _).symm
    have hr : n * x % y < y := Nat.mod_lt _ hy0
    generalize n * x / y = q at *
    generalize n * x % y = r at *
    rw [e]
    unfold halfUp
    have e2 : 2 * (y * q + r) + y = (2 * y) * q + (2 * r + y) := by rw [Nat.mul_add, ← Nat.mul_assoc]; omega
    rw [e2, Nat.mul_add_div (by omega)]
    by_cases g : (y : Int) ≤ 2 * (r : Int)
    · rw [if_pos (decide_eq_true g)]
      have : (2 * r + y) / (2 * y) = 1 := Nat.div_eq_of_lt_le (by omega) (by omega)
      rw [this]; rfl
    · rw [if_neg (by simpa using g)]
      have : (2 * r + y) / (2 * y) = 0 := Nat.div_eq_of_lt (by omega)
      rw [this, Nat.add_zero]
  unfold Amt.md
  rw [if_neg (by omega), if_neg (by unfold Amt.mdBad; omega), if_neg (by omega), hk, if_neg (by omega), if_neg (by omega)]
theorem conv_yes (l : List Rt) (c u hr : Int) (n x y m : Nat) (hn : n ≤ 17592186044416) (hr2 : 0 ≤ hr ∧ hr ≤ 876599) (hc : 0 ≤ c ∧ c ≤ 15) (hu : 0 ≤ u ∧ u ≤ 15) (hne : c ≠ u) (p1 : PU l c hr = ((x : Int), 0)) (p2 : PU l u hr = ((y : Int), 0))
    (hx : x ≤ 17592186044416) (hy0 : 0 < y) (hy : y ≤ 17592186044416) (hm : halfUp (n * x) y = m) (hb : m ≤ 17592186044416) : convV l c n u hr = ((m : Int), 0) := by
  unfold convV
  rw [p1, p2, if_neg (by unfold okI; omega), if_neg (by omega), if_neg hne, if_neg (by simp), if_neg (by simp)]
  show Amt.md n x y 4 = _
  rw [md_half n x y hn hx hy0 hy (by rw [hm]; exact hb), hm]
theorem pbase_any : BaseOf 18 := fun v P n w h h1 h2 hn => by
  have hv := rates_single 2 0 P (by omega) (by omega) (by omega) (by omega)
  refine ⟨fun hn1 => ?_, ?_⟩
  · have c := conv_any v _ 2 n 0 5 w h (by simp)
    rw [if_pos hv, if_pos hv, conv_yes [⟨2, 0, P⟩] 2 0 5 n P 1000000 _ (by omega) (by omega) (by omega) (by omega) (by omega) (pu_single 2 0 P 5 (by omega) (by omega) (by omega)) (pu_base _ _) (by omega) (by omega) (by omega) rfl (by have := half_bd n P hn1 h2; omega)] at c
    exact c
  · have hb : halfUp (n * 1000000) P ≤ 17592186044416 := by
      unfold halfUp
      have : (2 * (n * 1000000) + P) / (2 * P) ≤ (2 * (n * 1000000) + P) / 2000000 := Nat.div_le_div_left (by omega) (by omega)
      omega
    have c := conv_any v _ 0 n 2 5 w h (by simp)
    rw [if_pos hv, if_pos hv, conv_yes [⟨2, 0, P⟩] 0 2 5 n 1000000 P _ (by omega) (by omega) (by omega) (by omega) (by omega) (pu_base _ _) (pu_single 2 0 P 5 (by omega) (by omega) (by omega)) (by omega) (by omega) (by omega) rfl hb] at c
    exact c
set_option maxHeartbeats 2000000 in
theorem pawake_any : AwakeOf 9 := fun w => by
  have hone := Lib.hid (rate_one w ⟨1, 0, 2500000⟩)
  have B0 := Lib.hid (alloc1 w (.cells #[.int .i64 1, .int .i64 0, .int .i64 2500000] 35))
  have c := Lib.hid (fun W hB => conv_any (.slice (some ⟨w.heap.size, 0, none⟩) 1 1) [⟨1, 0, 2500000⟩] 1 3 0 0 W (RatesAt.below hone.out hB) (by simp))
  have hv := rates_single 1 0 2500000 (by omega) (by omega) (by omega) (by omega)
  have hcv : convV [⟨1, 0, 2500000⟩] 1 3 0 0 = (8, 0) := conv_yes [⟨1, 0, 2500000⟩] 1 0 0 3 2500000 1000000 8 (by omega) (by omega) (by omega) (by omega) (by omega) (pu_single 1 0 2500000 0 (by omega) (by omega) (by omega)) (pu_base _ _) (by omega) (by omega) (by omega) (by decide) (by omega)
  rw [if_pos hv, if_pos hv, hcv] at c
  clear hv hone hcv
  go_enter Try.func9, Try.ntmps9
  go_wp2_with fail
  refine (c.out _ (Below.refl _ _)).mono ?_; rintro e W ⟨rfl, hB⟩
  have B1 := Lib.hid (B0.out.trans (hB.mono B0.out.size))
  clear hB c
  go_wp2_with fail
  go_ret
  exact ⟨rfl, B1.out⟩
end Go.Proofs.Ytcdfedkcefhdiaa.Exc
