/- AddMonths of the reference; both together. -/
import Derived.Test.YtlhgjhdeidhibaaDoorCalAdd
namespace Go.Proofs.YtlhgjhdeidhibaaDoor.Cal
open Go.RowKit Go.Lib Go.Proofs.YtlhgjhdeidhibaaDoor.Bas
set_option linter.unusedVariables false

theorem radd_far (h n : Int) (w : World) (hh : ¬ (0 ≤ h ∧ h ≤ 876599)) : Calls Tryd.prog 25 #[.int .i64 h, .int .i64 n] w (NumOut 0 1 w) := by
  have c := Lib.hid (rcivil_no h w hh)
  clear hh
  go_enter Tryd.func25, Tryd.ntmps25
  go_wp2_with fail
  refine c.out.mono ?_; rintro e w1 ⟨rfl, hB⟩
  have hB' := Lib.hid (hB.trans ((alloc1 w1 (.cells #[.int .i64 0, .int .i64 0, .int .i64 0] 23)).mono hB.size))
  clear hB
  go_wp2_with fail
  go_ret2
  exact ⟨rfl, hB'.out⟩

set_option maxHeartbeats 1000000 in
theorem radd_n1 (h n y m d k : Int) (w : World) (c : Hid (Calls Tryd.prog 14 #[.int .i64 h] w (CivOut y m d k 0 w))) (y1 : 2000 ≤ y) (y2 : y ≤ 2099) (m1 : 1 ≤ m) (m2 : m ≤ 12) (hn : 1200 < n) :
    Calls Tryd.prog 25 #[.int .i64 h, .int .i64 n] w (NumOut 0 1 w) := by
  have hc := Lib.hid (fun (w1 : World) (hB : Below w.heap.size w w1) => hB.trans ((alloc1 w1 (.cells #[.int .i64 y, .int .i64 m, .int .i64 d] 23)).mono hB.size))
  go_enter Tryd.func25, Tryd.ntmps25
  go_wp2_with fail
  refine c.out.mono ?_; rintro e w1 ⟨rfl, hB⟩
  have hB' := Lib.hid (hc.out _ hB)
  clear hB
  go_wp2_with fail
  try any_goals (exfalso; omega; done)
  go_ret2
  exact ⟨rfl, hB'.out⟩
set_option maxHeartbeats 1000000 in
theorem radd_n2 (h n y m d k : Int) (w : World) (c : Hid (Calls Tryd.prog 14 #[.int .i64 h] w (CivOut y m d k 0 w))) (y1 : 2000 ≤ y) (y2 : y ≤ 2099) (m1 : 1 ≤ m) (m2 : m ≤ 12) (hn : n < -1200) :
    Calls Tryd.prog 25 #[.int .i64 h, .int .i64 n] w (NumOut 0 1 w) := by
  have hc := Lib.hid (fun (w1 : World) (hB : Below w.heap.size w w1) => hB.trans ((alloc1 w1 (.cells #[.int .i64 y, .int .i64 m, .int .i64 d] 23)).mono hB.size))
  go_enter Tryd.func25, Tryd.ntmps25
  go_wp2_with fail
  refine c.out.mono ?_; rintro e w1 ⟨rfl, hB⟩
  have hB' := Lib.hid (hc.out _ hB)
  clear hB
  go_wp2_with fail
  try any_goals (exfalso; omega; done)
  go_ret2
  exact ⟨rfl, hB'.out⟩
set_option maxHeartbeats 1000000 in
theorem radd_y1 (h n y m d k : Int) (w : World) (c : Hid (Calls Tryd.prog 14 #[.int .i64 h] w (CivOut y m d k 0 w))) (y1 : 2000 ≤ y) (y2 : y ≤ 2099) (m1 : 1 ≤ m) (m2 : m ≤ 12) (hn1 : -1200 ≤ n) (hn2 : n ≤ 1200) (hy : (12 * y + m - 1 + n) / 12 < 2000) :
    Calls Tryd.prog 25 #[.int .i64 h, .int .i64 n] w (NumOut 0 1 w) := by
  have hc := Lib.hid (fun (w1 : World) (hB : Below w.heap.size w w1) => hB.trans ((alloc1 w1 (.cells #[.int .i64 y, .int .i64 m, .int .i64 d] 23)).mono hB.size))
  go_enter Tryd.func25, Tryd.ntmps25
  go_wp2_with fail
  refine c.out.mono ?_; rintro e w1 ⟨rfl, hB⟩
  have hB' := Lib.hid (hc.out _ hB)
  clear hB
  go_wp2_with fail
  try any_goals (exfalso; omega; done)
  go_ret2
  exact ⟨rfl, hB'.out⟩
set_option maxHeartbeats 1000000 in
theorem radd_y2 (h n y m d k : Int) (w : World) (c : Hid (Calls Tryd.prog 14 #[.int .i64 h] w (CivOut y m d k 0 w))) (y1 : 2000 ≤ y) (y2 : y ≤ 2099) (m1 : 1 ≤ m) (m2 : m ≤ 12) (hn1 : -1200 ≤ n) (hn2 : n ≤ 1200) (hy : 2099 < (12 * y + m - 1 + n) / 12) :
    Calls Tryd.prog 25 #[.int .i64 h, .int .i64 n] w (NumOut 0 1 w) := by
  have hc := Lib.hid (fun (w1 : World) (hB : Below w.heap.size w w1) => hB.trans ((alloc1 w1 (.cells #[.int .i64 y, .int .i64 m, .int .i64 d] 23)).mono hB.size))
  go_enter Tryd.func25, Tryd.ntmps25
  go_wp2_with fail
  refine c.out.mono ?_; rintro e w1 ⟨rfl, hB⟩
  have hB' := Lib.hid (hc.out _ hB)
  clear hB
  go_wp2_with fail
  try any_goals (exfalso; omega; done)
  go_ret2
  exact ⟨rfl, hB'.out⟩
set_option maxHeartbeats 4000000 in
theorem radd_m1 (h n y m d k z Y M R : Int) (w : World) (c : Hid (Calls Tryd.prog 14 #[.int .i64 h] w (CivOut y m d k 0 w))) (y1 : 2000 ≤ y) (y2 : y ≤ 2099) (m1 : 1 ≤ m) (m2 : m ≤ 12) (d1 : 1 ≤ d) (d2 : d ≤ 31) (z1 : 28 ≤ z) (z2 : z ≤ 31)
    (hn1 : -1200 ≤ n) (hn2 : n ≤ 1200) (hY : Hid ((12 * y + m - 1 + n) / 12 = Y)) (hM : Hid ((12 * y + m - 1 + n) % 12 + 1 = M)) (hY1 : 2000 ≤ Y) (hY2 : Y ≤ 2099) (hz : z < d)
    (cL : Hid (∀ w, Calls Tryd.prog 46 #[.int .i64 Y, .int .i64 M] w fun e w' => e = .returned (.int .i64 z) ∧ w = w'))
    (cH : Hid (∀ w, Calls Tryd.prog 18 #[.agg #[.int .i64 Y, .int .i64 M, .int .i64 z], .int .i64 k] w (NumOut R 0 w))) :
    Calls Tryd.prog 25 #[.int .i64 h, .int .i64 n] w (NumOut R 0 w) := by
  have hY3 : 2000 ≤ (12 * y + m - 1 + n) / 12 := by have := hY.out; omega
  have hY4 : (12 * y + m - 1 + n) / 12 ≤ 2099 := by have := hY.out; omega
  have hc := Lib.hid (fun (w1 : World) (hB : Below w.heap.size w w1) => hB.trans ((alloc1 w1 (.cells #[.int .i64 y, .int .i64 m, .int .i64 d] 23)).mono hB.size))
  go_enter Tryd.func25, Tryd.ntmps25
  go_wp2_with fail
  refine c.out.mono ?_; rintro e w1 ⟨rfl, hB⟩
  have hB' := Lib.hid (hc.out _ hB)
  clear hB
  go_wp2_with fail
  try any_goals (exfalso; omega; done)
  rw [hY.out, hM.out]
  clear hY3 hY4
  have hs0 : (w1.alloc (.cells #[.int .i64 y, .int .i64 m, .int .i64 d] 23)).cell? ⟨w1.heap.size, 2, none⟩ = some (.int .i64 d) := by simp
  have hs := Lib.hid hs0
  have hlt0 : w1.heap.size < (w1.alloc (.cells #[.int .i64 y, .int .i64 m, .int .i64 d] 23)).heap.size := by simp
  have hlt := Lib.hid hlt0
  clear hs0 hlt0
  go_region_held3 (fun w' => w'.cell? ⟨w1.heap.size, 2, none⟩ = some (.int .i64 d)) (first | exact hs.out | (rw [hB2.cell (p := ⟨w1.heap.size, 2, none⟩) hlt.out]; exact hs.out) | go_keep)
    (first
      | (go_at_call 46; (with_reducible refine (cL.out _).mono ?_); rintro e w' ⟨rfl, rfl⟩)
      | (go_at_call 18; (with_reducible refine (cH.out _).mono ?_); rintro e w2 ⟨rfl, hB2⟩))
  have hB3 := Lib.hid (trans_at hB'.out (below_of_drew hB2))
  clear hB2
  go_wp2_with fail
  go_ret2
  exact ⟨rfl, hB3.out⟩
set_option maxHeartbeats 4000000 in
theorem radd_m2 (h n y m d k z Y M R : Int) (w : World) (c : Hid (Calls Tryd.prog 14 #[.int .i64 h] w (CivOut y m d k 0 w))) (y1 : 2000 ≤ y) (y2 : y ≤ 2099) (m1 : 1 ≤ m) (m2 : m ≤ 12) (d1 : 1 ≤ d) (d2 : d ≤ 31) (z1 : 28 ≤ z) (z2 : z ≤ 31)
    (hn1 : -1200 ≤ n) (hn2 : n ≤ 1200) (hY : Hid ((12 * y + m - 1 + n) / 12 = Y)) (hM : Hid ((12 * y + m - 1 + n) % 12 + 1 = M)) (hY1 : 2000 ≤ Y) (hY2 : Y ≤ 2099) (hz : ¬ z < d)
    (cL : Hid (∀ w, Calls Tryd.prog 46 #[.int .i64 Y, .int .i64 M] w fun e w' => e = .returned (.int .i64 z) ∧ w = w'))
    (cH : Hid (∀ w, Calls Tryd.prog 18 #[.agg #[.int .i64 Y, .int .i64 M, .int .i64 d], .int .i64 k] w (NumOut R 0 w))) :
    Calls Tryd.prog 25 #[.int .i64 h, .int .i64 n] w (NumOut R 0 w) := by
  have hY3 : 2000 ≤ (12 * y + m - 1 + n) / 12 := by have := hY.out; omega
  have hY4 : (12 * y + m - 1 + n) / 12 ≤ 2099 := by have := hY.out; omega
  have hc := Lib.hid (fun (w1 : World) (hB : Below w.heap.size w w1) => hB.trans ((alloc1 w1 (.cells #[.int .i64 y, .int .i64 m, .int .i64 d] 23)).mono hB.size))
  go_enter Tryd.func25, Tryd.ntmps25
  go_wp2_with fail
  refine c.out.mono ?_; rintro e w1 ⟨rfl, hB⟩
  have hB' := Lib.hid (hc.out _ hB)
  clear hB
  go_wp2_with fail
  try any_goals (exfalso; omega; done)
  rw [hY.out, hM.out]
  clear hY3 hY4
  have hs0 : (w1.alloc (.cells #[.int .i64 y, .int .i64 m, .int .i64 d] 23)).cell? ⟨w1.heap.size, 2, none⟩ = some (.int .i64 d) := by simp
  have hs := Lib.hid hs0
  have hlt0 : w1.heap.size < (w1.alloc (.cells #[.int .i64 y, .int .i64 m, .int .i64 d] 23)).heap.size := by simp
  have hlt := Lib.hid hlt0
  clear hs0 hlt0
  have hzE : (if z < d then z else d) = d := if_neg (by omega)
  go_region_held3 (fun w' => w'.cell? ⟨w1.heap.size, 2, none⟩ = some (.int .i64 d)) (first | exact hs.out | (rw [hB2.cell (p := ⟨w1.heap.size, 2, none⟩) hlt.out]; exact hs.out) | go_keep)
    (first
      | (go_at_call 46; (with_reducible refine (cL.out _).mono ?_); rintro e w' ⟨rfl, rfl⟩)
      | (go_at_call 18; (with_reducible refine (cH.out _).mono ?_); rintro e w2 ⟨rfl, hB2⟩))
  have hB3 := Lib.hid (trans_at hB'.out (below_of_drew hB2))
  clear hB2
  go_wp2_with fail
  go_ret2
  exact ⟨rfl, hB3.out⟩

theorem add_any (h n : Int) (w : World) (hT : Tab w) (n1 : -9223372036854775808 ≤ n) (n2 : n ≤ 9223372036854775807) : Calls Tryd.prog 24 #[.int .i64 h, .int .i64 n] w (NumOut (addV h n).1 (addV h n).2 w) := by
  unfold addV
  by_cases hb : addB h n = true
  · rw [if_pos hb]; exact add_yes h n w hT hb
  · rw [if_neg hb]
    by_cases hh : 0 ≤ h ∧ h ≤ 876599
    · exact add_out h n w hT hh.1 hh.2 n1 n2 (by
        by_cases e : mix h n < 0
        · exact Or.inl e
        · by_cases e2 : mix h n < 1200
          · exact absurd ((addB_iff h n).2 ⟨hh.1, hh.2, by omega, e2⟩) hb
          · exact Or.inr (by omega))
    · exact add_far h n w hh
theorem radd_any (h n : Int) (w : World) (n1 : -9223372036854775808 ≤ n) (n2 : n ≤ 9223372036854775807) : Calls Tryd.prog 25 #[.int .i64 h, .int .i64 n] w (NumOut (addV h n).1 (addV h n).2 w) := by
  unfold addV
  by_cases hh : 0 ≤ h ∧ h ≤ 876599
  · have c := Lib.hid (rcivil_yes h w hh.1 hh.2)
    have o := (day_of h hh.1 hh.2).1
    have mb := mix_bd h hh.1 hh.2
    have mz := mix_zero h n
    have em : 12 * yr (h / 24) + mo (h / 24) - 1 + n = 24000 + mix h n := by unfold mix; omega
    by_cases hb : addB h n = true
    · rw [if_pos hb]
      have hi := (addB_iff h n).1 hb
      have ok2 := mday_ok (mix h n) (da (h / 24)) hi.2.2.1 hi.2.2.2 o.2.2.2.2.1
      have zb := md_bd (2000 + mix h n / 12) (mix h n % 12 + 1)
      have db := (md_bd (yr (h / 24)) (mo (h / 24))).2
      unfold okD at o
      have cL := Lib.hid (fun w => days_any (2000 + mix h n / 12) (mix h n % 12 + 1) w (by omega) (by omega))
      have cH := Lib.hid (fun w => rhour_yes (2000 + mix h n / 12) (mix h n % 12 + 1) (mday (mix h n) (da (h / 24))) (h % 24) w ok2 (by omega) (by omega))
      by_cases hz : md (2000 + mix h n / 12) (mix h n % 12 + 1) < da (h / 24)
      · have e : mday (mix h n) (da (h / 24)) = md (2000 + mix h n / 12) (mix h n % 12 + 1) := by unfold mday; omega
        rw [e] at cH
        have := radd_m1 h n _ _ _ _ (md (2000 + mix h n / 12) (mix h n % 12 + 1)) (2000 + mix h n / 12) (mix h n % 12 + 1) _ w c (by omega) (by omega) (by omega) (by omega) (by omega) (by omega) zb.1 zb.2 (by omega) (by omega) (Lib.hid (by omega)) (Lib.hid (by omega)) (by omega) (by omega) hz cL cH
        unfold addH
        rw [e]
        exact this
      · have e : mday (mix h n) (da (h / 24)) = da (h / 24) := by unfold mday; omega
        rw [e] at cH
        have := radd_m2 h n _ _ _ _ (md (2000 + mix h n / 12) (mix h n % 12 + 1)) (2000 + mix h n / 12) (mix h n % 12 + 1) _ w c (by omega) (by omega) (by omega) (by omega) (by omega) (by omega) zb.1 zb.2 (by omega) (by omega) (Lib.hid (by omega)) (Lib.hid (by omega)) (by omega) (by omega) hz cL cH
        unfold addH
        rw [e]
        exact this
    · rw [if_neg hb]
      unfold okD at o
      by_cases g1 : 1200 < n
      · exact radd_n1 h n _ _ _ _ w c (by omega) (by omega) (by omega) (by omega) g1
      by_cases g2 : n < -1200
      · exact radd_n2 h n _ _ _ _ w c (by omega) (by omega) (by omega) (by omega) g2
      by_cases e : mix h n < 0
      · exact radd_y1 h n _ _ _ _ w c (by omega) (by omega) (by omega) (by omega) (by omega) (by omega) (by omega)
      · by_cases e2 : mix h n < 1200
        · exact absurd ((addB_iff h n).2 ⟨hh.1, hh.2, by omega, e2⟩) hb
        · exact radd_y2 h n _ _ _ _ w c (by omega) (by omega) (by omega) (by omega) (by omega) (by omega) (by omega)
  · rw [if_neg (fun hb => hh ⟨((addB_iff h n).1 hb).1, ((addB_iff h n).1 hb).2.1⟩)]
    exact radd_far h n w hh
end Go.Proofs.YtlhgjhdeidhibaaDoor.Cal
