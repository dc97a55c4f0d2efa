/- CalendarCivil's walk. -/
import Derived.Test.YtlhgjhdeidhibaaDoorCalLaw0
namespace Go.Proofs.YtlhgjhdeidhibaaDoor.Cal
open Go.RowKit Go.Lib Go.Proofs.YtlhgjhdeidhibaaDoor.Bas
set_option linter.unusedVariables false

theorem hour_back (n : Int) (h0 : 0 ≤ n) (h1 : n ≤ 876599) : okD (yr (n / 24)) (mo (n / 24)) (da (n / 24)) ∧ 24 * num (yr (n / 24)) (mo (n / 24)) (da (n / 24)) + n % 24 = n := by
  have := day_of n h0 h1
  exact ⟨this.1, by omega⟩

set_option maxHeartbeats 4000000 in
theorem civilW (n y m d h r : Int) (w : World) (hT : Hid (Tab w)) (n1 : -9223372036854775808 ≤ n) (n2 : n ≤ 9223372036854775807)
    (c1 : Hid (∀ w, Tab w → Calls Tryd.prog 13 #[.int .i64 n] w (CivOut y m d h r w))) (c2 : Hid (∀ w, Calls Tryd.prog 14 #[.int .i64 n] w (CivOut y m d h r w))) :
    Calls Tryd.prog 3 #[.int .i64 n] w (BoolBe true w) := by
  have hb := hw_bd n
  have hk := Lib.hid (hour_back (hw n) hb.1 hb.2)
  have c3 := Lib.hid (fun w => hw_any n w n1 n2)
  have c4 := Lib.hid (fun w hT => civil_yes (hw n) w hT hb.1 hb.2)
  have c5 := Lib.hid (fun w hT => hour_yes _ _ _ (hw n % 24) w hT hk.out.1 (by omega) (by omega))
  rw [hk.out.2] at c5
  have c6 := Lib.hid awake_any
  go_enter Tryd.func3, Tryd.ntmps3
  go_wp2_with fail
  refine (c1.out _ hT.out).mono ?_; rintro e w1 ⟨rfl, hB⟩
  have hB1 := Lib.hid hB
  clear hB
  go_upto_region 2 with (fail)
  have b1 := Lib.hid (hB1.out.trans ((alloc1 w1 (.cells #[.int .i64 y, .int .i64 m, .int .i64 d] 23)).mono hB1.out.size))
  have D1 := Lib.hid (TriAt.new w1 y m d)
  have hp0 := hB1.out.size
  generalize hb1 : w1.heap.size = p1 at *
  have hp := Lib.hid hp0
  clear hb1 hB1 hp0
  go_wp2_with fail
  refine (c2.out _).mono ?_; rintro e w2 ⟨rfl, hB⟩
  have b2 := Lib.hid (trans_at b1.out hB)
  have D2 := Lib.hid (D1.out.keep hB)
  clear hB b1 D1
  go_upto_region 3 with (fail)
  have b3 := Lib.hid (trans_at b2.out (alloc1 w2 (.cells #[.int .i64 y, .int .i64 m, .int .i64 d] 23)))
  have D3 := Lib.hid (D2.out.keep (alloc1 w2 (.cells #[.int .i64 y, .int .i64 m, .int .i64 d] 23)))
  have E3 := Lib.hid (TriAt.new w2 y m d)
  clear b2 D2
  generalize hb2 : w2.heap.size = p2 at *
  clear hb2
  generalize w2.alloc (.cells #[.int .i64 y, .int .i64 m, .int .i64 d] 23) = W3 at *
  obtain ⟨-, k0, k1, k2, k3, k4, k5⟩ := D3.out
  obtain ⟨-, j0, j1, j2, -⟩ := E3.out
  go_wp2_with fail
  refine (c3.out _).mono ?_; rintro e w' ⟨rfl, rfl⟩
  go_wp2_with fail
  refine (c4.out _ (hT.out.keep b3.out)).mono ?_; rintro e W4 ⟨rfl, hB⟩
  have b4 := Lib.hid (trans_at b3.out hB)
  have D4 := Lib.hid (D3.out.keep hB)
  clear hB k0 k1 k2 k3 k4 k5 j0 j1 j2 b3 D3 E3
  obtain ⟨-, k0, k1, k2, k3, k4, k5⟩ := D4.out
  go_upto_region 6 with (fail)
  have D5 := Lib.hid (D4.out.set (yr (hw n / 24)) (mo (hw n / 24)) (da (hw n / 24)))
  have b5 := Lib.hid (below_set3 b4.out hp.out (yr (hw n / 24)) (mo (hw n / 24)) (da (hw n / 24)))
  clear b4 D4 k0 k1 k2 k3 k4 k5
  generalize ((W4.setCell ⟨p1, 0, none⟩ (.int .i64 (yr (hw n / 24)))).setCell ⟨p1, 1, none⟩ (.int .i64 (mo (hw n / 24)))).setCell ⟨p1, 2, none⟩ (.int .i64 (da (hw n / 24))) = W5 at *
  obtain ⟨-, k0, k1, k2, -⟩ := D5.out
  go_wp2_with fail
  refine (c5.out _ (hT.out.keep b5.out)).mono ?_; rintro e W6 ⟨rfl, hB⟩
  have b6 := Lib.hid (trans_at b5.out hB)
  clear hB k0 k1 k2 b5 D5
  go_wp2_with fail
  refine (c3.out _).mono ?_; rintro e w' ⟨rfl, rfl⟩
  go_wp2_with fail
  refine (c6.out _ (hT.out.keep b6.out)).mono ?_; rintro e W7 ⟨rfl, hB⟩
  have b7 := Lib.hid (trans_at b6.out hB)
  clear hB b6
  go_wp2_with fail
  go_ret
  exact ⟨rfl, b7.out⟩

theorem civil_walk (n : Int) (w : World) (hT : Tab w) (hn : (Lit.int .i64 n).wf = true) : Calls Tryd.prog 3 #[.int .i64 n] w (BoolBe true w) := by
  have hb := Go.bounds_i64 hn
  by_cases h : 0 ≤ n ∧ n ≤ 876599
  · exact civilW n _ _ _ _ _ w (Lib.hid hT) hb.1 hb.2 (Lib.hid fun w hT => civil_yes n w hT h.1 h.2) (Lib.hid fun w => rcivil_yes n w h.1 h.2)
  · exact civilW n _ _ _ _ _ w (Lib.hid hT) hb.1 hb.2 (Lib.hid fun w hT => civil_no n w h) (Lib.hid fun w => rcivil_no n w h)
end Go.Proofs.YtlhgjhdeidhibaaDoor.Cal
