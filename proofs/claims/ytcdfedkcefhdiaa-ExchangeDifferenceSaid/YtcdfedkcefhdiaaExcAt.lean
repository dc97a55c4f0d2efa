/- At of package exchange. -/
import Derived.Test.YtcdfedkcefhdiaaExcUnit
namespace Go.Proofs.Ytcdfedkcefhdiaa.Exc
open Go.RowKit Go.Lib Go.Proofs.Ytcdfedkcefhdiaa.Bas Go.Proofs.Ytcdfedkcefhdiaa.Spl Go.Proofs.Ytcdfedkcefhdiaa.Dk
set_option linter.unusedVariables false

theorem lastP_none (l : List Rt) (cur hr : Int) (hv : ratesV l = 0) (hc : ¬ (0 ≤ cur ∧ cur ≤ 15)) : lastP l cur hr l.length = 0 := by
  rw [lastP_not l cur hr 0 l.length (by omega) fun i _ b g => by
    have := re_zero l i ((rates_ok l hv).2 i b); omega]
  rfl
/-- perUnit, for a valid table. -/
theorem unit_all (v : Value) (l : List Rt) (cur hr : Int) (w : World) (h : RatesAt w v l) (hv : ratesV l = 0) : Calls Try.prog 28 #[v, .int .i64 cur, .int .i64 hr] w (NumOut (PU l cur hr).1 (PU l cur hr).2 w) := by
  by_cases h0 : cur = 0
  · subst h0
    unfold PU; rw [if_pos rfl]; exact unit_base v l hr w h
  · refine unit_any v l cur hr w h hv h0 _ _ (Lib.hid ⟨fun e => ?_, fun e => ?_⟩)
    · unfold PU; rw [if_neg h0, if_pos e]; exact ⟨rfl, rfl⟩
    · unfold PU; rw [if_neg h0, if_neg e]; exact ⟨rfl, rfl⟩
theorem at_err (v : Value) (l : List Rt) (cur hr r : Int) (w : World) (c : Hid (Calls Try.prog 15 #[v] w (ErrBe r w))) (h0 : (r == 0) = false) (h1 : (r != 0) = true) :
    Calls Try.prog 10 #[v, .int .i64 cur, .int .i64 hr] w (NumOut 0 r w) := by
  go_enter Try.func10, Try.ntmps10
  go_wp2_with fail
  refine c.out.mono ?_; rintro e W1 ⟨rfl, hB⟩
  have b1 := Lib.hid hB
  clear hB
  go_wp2_with fail
  go_ret2
  exact ⟨rfl, b1.out⟩
theorem at_hour (v : Value) (l : List Rt) (cur hr : Int) (w : World) (c : Hid (Calls Try.prog 15 #[v] w (ErrBe 0 w))) (hh : hrB hr = false) :
    Calls Try.prog 10 #[v, .int .i64 cur, .int .i64 hr] w (NumOut 0 1 w) := by
  have ch := Lib.hid (fun w => isHour_any hr w _ hh)
  clear hh
  go_enter Try.func10, Try.ntmps10
  go_wp2_with fail
  refine c.out.mono ?_; rintro e W1 ⟨rfl, hB⟩
  have b1 := Lib.hid hB
  clear hB
  go_wp2_with fail
  refine (ch.out _).mono ?_; rintro e w' ⟨rfl, rfl⟩
  go_wp2_with fail
  go_ret2
  exact ⟨rfl, b1.out⟩
theorem at_good (v : Value) (l : List Rt) (cur hr x r : Int) (w : World) (c : Hid (Calls Try.prog 15 #[v] w (ErrBe 0 w))) (hh : hrB hr = true)
    (cu : Hid (∀ W, Below w.heap.size w W → Calls Try.prog 28 #[v, .int .i64 cur, .int .i64 hr] W (NumOut x r W))) :
    Calls Try.prog 10 #[v, .int .i64 cur, .int .i64 hr] w (NumOut x r w) := by
  have ch := Lib.hid (fun w => isHour_any hr w _ hh)
  clear hh
  go_enter Try.func10, Try.ntmps10
  go_wp2_with fail
  refine c.out.mono ?_; rintro e W1 ⟨rfl, hB⟩
  have b1 := Lib.hid hB
  clear hB
  go_wp2_with fail
  refine (ch.out _).mono ?_; rintro e w' ⟨rfl, rfl⟩
  go_wp2_with fail
  refine (cu.out _ b1.out).mono ?_; rintro e W2 ⟨rfl, hB⟩
  have b2 := Lib.hid (b1.out.trans (hB.mono b1.out.size))
  clear hB
  go_wp2_with fail
  go_ret2
  exact ⟨rfl, b2.out⟩
theorem at_any : AtOf 10 := fun v l cur hr w h hm _ _ => by
  have c := val_any v l w h hm
  unfold atV
  by_cases h0 : ratesV l = 0
  · rw [h0] at c
    rw [if_neg (by simp [h0])]
    by_cases h1 : 0 ≤ hr ∧ hr ≤ 876599
    · rw [if_neg (by simp only [Classical.not_not]; exact h1)]
      have e1 : hrB hr = true := decide_eq_true h1
      have g := at_good v l cur hr _ _ w (Lib.hid c) e1 (Lib.hid (fun W hB => unit_all v l cur hr W (h.below hB) h0))
      unfold PU at g
      by_cases h2 : 0 ≤ cur ∧ cur ≤ 15
      · rw [if_neg (by simp only [Classical.not_not]; exact h2)]; exact g
      · rw [if_pos h2]
        rw [if_neg (by omega), if_pos (lastP_none l cur hr h0 h2)] at g
        exact g
    · rw [if_pos h1]; exact at_hour v l cur hr w (Lib.hid c) (decide_eq_false h1)
  · rw [if_pos h0]; exact at_err v l cur hr _ w (Lib.hid c) (by simp [h0]) (by simp [h0])
end Go.Proofs.Ytcdfedkcefhdiaa.Exc
