/- Periods: Valid, Contains, Overlap (both). (Written by gen_per.py.) -/
import Derived.Test.YtlhgjhdeidhibaaDoorCalLaw0
namespace Go.Proofs.YtlhgjhdeidhibaaDoor.Cal
open Go.RowKit Go.Lib Go.Proofs.YtlhgjhdeidhibaaDoor.Bas
set_option linter.unusedVariables false

/-- Two cells at the beginning of block b. -/
def TwoAt (W : World) (b : Nat) (f t : Int) : Prop := b < W.heap.size ∧ W.cell? ⟨b, 0, none⟩ = some (.int .i64 f) ∧ W.cell? ⟨b, 1, none⟩ = some (.int .i64 t) ∧ W.frozen? ⟨b, 0, none⟩ = false ∧ W.frozen? ⟨b, 1, none⟩ = false
theorem TwoAt.new (w : World) (f t : Int) : TwoAt (w.alloc (.cells #[.int .i64 f, .int .i64 t] 46)) w.heap.size f t := by
  refine ⟨by simp, by simp, by simp, by simp, by simp⟩
theorem TwoAt.keep {w w' : World} {b : Nat} {f t : Int} (h : TwoAt w b f t) (hb : Below w.heap.size w w') : TwoAt w' b f t := by
  obtain ⟨h0, h1, h2, h3, h4⟩ := h
  refine ⟨Nat.lt_of_lt_of_le h0 hb.size, ?_, ?_, ?_, ?_⟩
  · rw [hb.cell (p := ⟨b, 0, none⟩) h0]; exact h1
  · rw [hb.cell (p := ⟨b, 1, none⟩) h0]; exact h2
  · rw [hb.frozen (p := ⟨b, 0, none⟩) h0]; exact h3
  · rw [hb.frozen (p := ⟨b, 1, none⟩) h0]; exact h4
theorem TwoAt.drewN {w : World} {b : Nat} {f t : Int} (h : TwoAt w b f t) (n : Nat) : TwoAt (w.drewN n) b f t := h

/-- Is it a period of hours? -/
def pvB (f t : Int) : Bool := decide (0 ≤ f) && decide (f < t) && decide (t ≤ 876600)
/-- Does it contain the hour? -/
def coB (f t h : Int) : Bool := pvB f t && decide (f ≤ h) && decide (h < t)
theorem pvB_iff (f t : Int) : pvB f t = true ↔ 0 ≤ f ∧ f < t ∧ t ≤ 876600 := by unfold pvB; simp [and_assoc]
theorem coB_iff (f t h : Int) : coB f t h = true ↔ (0 ≤ f ∧ f < t ∧ t ≤ 876600) ∧ f ≤ h ∧ h < t := by unfold coB; simp [pvB_iff, and_assoc]

theorem valid_0 (f t : Int) (w : World) (t0 : decide (0 ≤ f) = false) : Calls Tryd.prog 26 #[.agg #[.int .i64 f, .int .i64 t]] w (BoolBe false w) := by
  go_enter Tryd.func26, Tryd.ntmps26
  go_wp2
  try any_goals (exfalso; simp at *; omega; done)
  go_ret
  exact ⟨rfl, alloc1 _ _⟩
theorem valid_1 (f t : Int) (w : World) (t0 : decide (0 ≤ f) = true) (t1 : decide (f < t) = false) : Calls Tryd.prog 26 #[.agg #[.int .i64 f, .int .i64 t]] w (BoolBe false w) := by
  go_enter Tryd.func26, Tryd.ntmps26
  go_wp2
  try any_goals (exfalso; simp at *; omega; done)
  go_ret
  exact ⟨rfl, alloc1 _ _⟩
theorem valid_2 (f t : Int) (w : World) (t0 : decide (0 ≤ f) = true) (t1 : decide (f < t) = true) (t2 : decide (t ≤ 876600) = false) : Calls Tryd.prog 26 #[.agg #[.int .i64 f, .int .i64 t]] w (BoolBe false w) := by
  go_enter Tryd.func26, Tryd.ntmps26
  go_wp2
  try any_goals (exfalso; simp at *; omega; done)
  go_ret
  exact ⟨rfl, alloc1 _ _⟩
theorem valid_3 (f t : Int) (w : World) (t0 : decide (0 ≤ f) = true) (t1 : decide (f < t) = true) (t2 : decide (t ≤ 876600) = true) : Calls Tryd.prog 26 #[.agg #[.int .i64 f, .int .i64 t]] w (BoolBe true w) := by
  go_enter Tryd.func26, Tryd.ntmps26
  go_wp2
  try any_goals (exfalso; simp at *; omega; done)
  go_ret
  exact ⟨rfl, alloc1 _ _⟩
theorem valid_any (f t : Int) (w : World) (b : Bool) (hb : pvB f t = b) : Calls Tryd.prog 26 #[.agg #[.int .i64 f, .int .i64 t]] w (BoolBe b w) := by
  subst hb
  unfold pvB
  by_cases t0 : 0 ≤ f
  · by_cases t1 : f < t
    · by_cases t2 : t ≤ 876600
      · rw [decide_eq_true t0, decide_eq_true t1, decide_eq_true t2]; exact valid_3 f t w (decide_eq_true t0) (decide_eq_true t1) (decide_eq_true t2)
      · rw [decide_eq_true t0, decide_eq_true t1, decide_eq_false t2]; exact valid_2 f t w (decide_eq_true t0) (decide_eq_true t1) (decide_eq_false t2)
    · rw [decide_eq_true t0, decide_eq_false t1]; exact valid_1 f t w (decide_eq_true t0) (decide_eq_false t1)
  · rw [decide_eq_false t0]; exact valid_0 f t w (decide_eq_false t0)

theorem rvalid_0 (f t : Int) (w : World) (t0 : decide (0 ≤ f) = false) : Calls Tryd.prog 27 #[.agg #[.int .i64 f, .int .i64 t]] w (BoolBe false w) := by
  go_enter Tryd.func27, Tryd.ntmps27
  go_wp2
  try any_goals (exfalso; simp at *; omega; done)
  go_ret
  exact ⟨rfl, alloc1 _ _⟩
theorem rvalid_1 (f t : Int) (w : World) (t0 : decide (0 ≤ f) = true) (t1 : decide (f < t) = false) : Calls Tryd.prog 27 #[.agg #[.int .i64 f, .int .i64 t]] w (BoolBe false w) := by
  go_enter Tryd.func27, Tryd.ntmps27
  go_wp2
  try any_goals (exfalso; simp at *; omega; done)
  go_ret
  exact ⟨rfl, alloc1 _ _⟩
theorem rvalid_2 (f t : Int) (w : World) (t0 : decide (0 ≤ f) = true) (t1 : decide (f < t) = true) (t2 : decide (t ≤ 876600) = false) : Calls Tryd.prog 27 #[.agg #[.int .i64 f, .int .i64 t]] w (BoolBe false w) := by
  go_enter Tryd.func27, Tryd.ntmps27
  go_wp2
  try any_goals (exfalso; simp at *; omega; done)
  go_ret
  exact ⟨rfl, alloc1 _ _⟩
theorem rvalid_3 (f t : Int) (w : World) (t0 : decide (0 ≤ f) = true) (t1 : decide (f < t) = true) (t2 : decide (t ≤ 876600) = true) : Calls Tryd.prog 27 #[.agg #[.int .i64 f, .int .i64 t]] w (BoolBe true w) := by
  go_enter Tryd.func27, Tryd.ntmps27
  go_wp2
  try any_goals (exfalso; simp at *; omega; done)
  go_ret
  exact ⟨rfl, alloc1 _ _⟩
theorem rvalid_any (f t : Int) (w : World) (b : Bool) (hb : pvB f t = b) : Calls Tryd.prog 27 #[.agg #[.int .i64 f, .int .i64 t]] w (BoolBe b w) := by
  subst hb
  unfold pvB
  by_cases t0 : 0 ≤ f
  · by_cases t1 : f < t
    · by_cases t2 : t ≤ 876600
      · rw [decide_eq_true t0, decide_eq_true t1, decide_eq_true t2]; exact rvalid_3 f t w (decide_eq_true t0) (decide_eq_true t1) (decide_eq_true t2)
      · rw [decide_eq_true t0, decide_eq_true t1, decide_eq_false t2]; exact rvalid_2 f t w (decide_eq_true t0) (decide_eq_true t1) (decide_eq_false t2)
    · rw [decide_eq_true t0, decide_eq_false t1]; exact rvalid_1 f t w (decide_eq_true t0) (decide_eq_false t1)
  · rw [decide_eq_false t0]; exact rvalid_0 f t w (decide_eq_false t0)

theorem contains_0 (f t h : Int) (w : World) (hv : pvB f t = false)  : Calls Tryd.prog 28 #[.agg #[.int .i64 f, .int .i64 t], .int .i64 h] w (BoolBe false w) := by
  have c := Lib.hid (fun w => valid_any f t w _ hv)
  have b0 := Lib.hid (alloc1 w (.cells #[.int .i64 f, .int .i64 t] 46))
  have D0 := Lib.hid (TwoAt.new w f t)
  clear hv
  go_enter Tryd.func28, Tryd.ntmps28
  go_wp2_with fail
  refine (c.out _).mono ?_; rintro e W1 ⟨rfl, hB⟩
  have b1 := Lib.hid (trans_at b0.out hB)
  have D1 := D0.out.keep hB
  clear hB b0 D0
  obtain ⟨-, k0, k1, -⟩ := D1
  go_wp2
  try any_goals (exfalso; simp at *; omega; done)
  go_ret
  exact ⟨rfl, b1.out⟩
theorem contains_1 (f t h : Int) (w : World) (hv : pvB f t = true) (t1 : decide (f ≤ h) = false) : Calls Tryd.prog 28 #[.agg #[.int .i64 f, .int .i64 t], .int .i64 h] w (BoolBe false w) := by
  have c := Lib.hid (fun w => valid_any f t w _ hv)
  have b0 := Lib.hid (alloc1 w (.cells #[.int .i64 f, .int .i64 t] 46))
  have D0 := Lib.hid (TwoAt.new w f t)
  clear hv
  go_enter Tryd.func28, Tryd.ntmps28
  go_wp2_with fail
  refine (c.out _).mono ?_; rintro e W1 ⟨rfl, hB⟩
  have b1 := Lib.hid (trans_at b0.out hB)
  have D1 := D0.out.keep hB
  clear hB b0 D0
  obtain ⟨-, k0, k1, -⟩ := D1
  go_wp2
  try any_goals (exfalso; simp at *; omega; done)
  go_ret
  exact ⟨rfl, b1.out⟩
theorem contains_2 (f t h : Int) (w : World) (hv : pvB f t = true) (t1 : decide (f ≤ h) = true) (t2 : decide (h < t) = false) : Calls Tryd.prog 28 #[.agg #[.int .i64 f, .int .i64 t], .int .i64 h] w (BoolBe false w) := by
  have c := Lib.hid (fun w => valid_any f t w _ hv)
  have b0 := Lib.hid (alloc1 w (.cells #[.int .i64 f, .int .i64 t] 46))
  have D0 := Lib.hid (TwoAt.new w f t)
  clear hv
  go_enter Tryd.func28, Tryd.ntmps28
  go_wp2_with fail
  refine (c.out _).mono ?_; rintro e W1 ⟨rfl, hB⟩
  have b1 := Lib.hid (trans_at b0.out hB)
  have D1 := D0.out.keep hB
  clear hB b0 D0
  obtain ⟨-, k0, k1, -⟩ := D1
  go_wp2
  try any_goals (exfalso; simp at *; omega; done)
  go_ret
  exact ⟨rfl, b1.out⟩
theorem contains_3 (f t h : Int) (w : World) (hv : pvB f t = true) (t1 : decide (f ≤ h) = true) (t2 : decide (h < t) = true) : Calls Tryd.prog 28 #[.agg #[.int .i64 f, .int .i64 t], .int .i64 h] w (BoolBe true w) := by
  have c := Lib.hid (fun w => valid_any f t w _ hv)
  have b0 := Lib.hid (alloc1 w (.cells #[.int .i64 f, .int .i64 t] 46))
  have D0 := Lib.hid (TwoAt.new w f t)
  clear hv
  go_enter Tryd.func28, Tryd.ntmps28
  go_wp2_with fail
  refine (c.out _).mono ?_; rintro e W1 ⟨rfl, hB⟩
  have b1 := Lib.hid (trans_at b0.out hB)
  have D1 := D0.out.keep hB
  clear hB b0 D0
  obtain ⟨-, k0, k1, -⟩ := D1
  go_wp2
  try any_goals (exfalso; simp at *; omega; done)
  go_ret
  exact ⟨rfl, b1.out⟩
theorem contains_any (f t h : Int) (w : World) (b : Bool) (hb : coB f t h = b) : Calls Tryd.prog 28 #[.agg #[.int .i64 f, .int .i64 t], .int .i64 h] w (BoolBe b w) := by
  subst hb
  unfold coB
  cases hv : pvB f t
  · exact contains_0 f t h w hv
  · by_cases t1 : f ≤ h
    · by_cases t2 : h < t
      · rw [decide_eq_true t1, decide_eq_true t2]; exact contains_3 f t h w hv (decide_eq_true t1) (decide_eq_true t2)
      · rw [decide_eq_true t1, decide_eq_false t2]; exact contains_2 f t h w hv (decide_eq_true t1) (decide_eq_false t2)
    · rw [decide_eq_false t1]; exact contains_1 f t h w hv (decide_eq_false t1)

theorem rcontains_0 (f t h : Int) (w : World) (hv : pvB f t = false)  : Calls Tryd.prog 29 #[.agg #[.int .i64 f, .int .i64 t], .int .i64 h] w (BoolBe false w) := by
  have c := Lib.hid (fun w => rvalid_any f t w _ hv)
  have b0 := Lib.hid (alloc1 w (.cells #[.int .i64 f, .int .i64 t] 46))
  have D0 := Lib.hid (TwoAt.new w f t)
  clear hv
  go_enter Tryd.func29, Tryd.ntmps29
  go_wp2_with fail
  refine (c.out _).mono ?_; rintro e W1 ⟨rfl, hB⟩
  have b1 := Lib.hid (trans_at b0.out hB)
  have D1 := D0.out.keep hB
  clear hB b0 D0
  obtain ⟨-, k0, k1, -⟩ := D1
  go_wp2
  try any_goals (exfalso; simp at *; omega; done)
  go_ret
  exact ⟨rfl, b1.out⟩
theorem rcontains_1 (f t h : Int) (w : World) (hv : pvB f t = true) (t1 : decide (f ≤ h) = false) : Calls Tryd.prog 29 #[.agg #[.int .i64 f, .int .i64 t], .int .i64 h] w (BoolBe false w) := by
  have c := Lib.hid (fun w => rvalid_any f t w _ hv)
  have b0 := Lib.hid (alloc1 w (.cells #[.int .i64 f, .int .i64 t] 46))
  have D0 := Lib.hid (TwoAt.new w f t)
  clear hv
  go_enter Tryd.func29, Tryd.ntmps29
  go_wp2_with fail
  refine (c.out _).mono ?_; rintro e W1 ⟨rfl, hB⟩
  have b1 := Lib.hid (trans_at b0.out hB)
  have D1 := D0.out.keep hB
  clear hB b0 D0
  obtain ⟨-, k0, k1, -⟩ := D1
  go_wp2
  try any_goals (exfalso; simp at *; omega; done)
  go_ret
  exact ⟨rfl, b1.out⟩
theorem rcontains_2 (f t h : Int) (w : World) (hv : pvB f t = true) (t1 : decide (f ≤ h) = true) (t2 : decide (h < t) = false) : Calls Tryd.prog 29 #[.agg #[.int .i64 f, .int .i64 t], .int .i64 h] w (BoolBe false w) := by
  have c := Lib.hid (fun w => rvalid_any f t w _ hv)
  have b0 := Lib.hid (alloc1 w (.cells #[.int .i64 f, .int .i64 t] 46))
  have D0 := Lib.hid (TwoAt.new w f t)
  clear hv
  go_enter Tryd.func29, Tryd.ntmps29
  go_wp2_with fail
  refine (c.out _).mono ?_; rintro e W1 ⟨rfl, hB⟩
  have b1 := Lib.hid (trans_at b0.out hB)
  have D1 := D0.out.keep hB
  clear hB b0 D0
  obtain ⟨-, k0, k1, -⟩ := D1
  go_wp2
  try any_goals (exfalso; simp at *; omega; done)
  go_ret
  exact ⟨rfl, b1.out⟩
theorem rcontains_3 (f t h : Int) (w : World) (hv : pvB f t = true) (t1 : decide (f ≤ h) = true) (t2 : decide (h < t) = true) : Calls Tryd.prog 29 #[.agg #[.int .i64 f, .int .i64 t], .int .i64 h] w (BoolBe true w) := by
  have c := Lib.hid (fun w => rvalid_any f t w _ hv)
  have b0 := Lib.hid (alloc1 w (.cells #[.int .i64 f, .int .i64 t] 46))
  have D0 := Lib.hid (TwoAt.new w f t)
  clear hv
  go_enter Tryd.func29, Tryd.ntmps29
  go_wp2_with fail
  refine (c.out _).mono ?_; rintro e W1 ⟨rfl, hB⟩
  have b1 := Lib.hid (trans_at b0.out hB)
  have D1 := D0.out.keep hB
  clear hB b0 D0
  obtain ⟨-, k0, k1, -⟩ := D1
  go_wp2
  try any_goals (exfalso; simp at *; omega; done)
  go_ret
  exact ⟨rfl, b1.out⟩
theorem rcontains_any (f t h : Int) (w : World) (b : Bool) (hb : coB f t h = b) : Calls Tryd.prog 29 #[.agg #[.int .i64 f, .int .i64 t], .int .i64 h] w (BoolBe b w) := by
  subst hb
  unfold coB
  cases hv : pvB f t
  · exact rcontains_0 f t h w hv
  · by_cases t1 : f ≤ h
    · by_cases t2 : h < t
      · rw [decide_eq_true t1, decide_eq_true t2]; exact rcontains_3 f t h w hv (decide_eq_true t1) (decide_eq_true t2)
      · rw [decide_eq_true t1, decide_eq_false t2]; exact rcontains_2 f t h w hv (decide_eq_true t1) (decide_eq_false t2)
    · rw [decide_eq_false t1]; exact rcontains_1 f t h w hv (decide_eq_false t1)

end Go.Proofs.YtlhgjhdeidhibaaDoor.Cal
