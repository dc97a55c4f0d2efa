/- CalendarMonths' walk. -/
import Derived.Test.YtlhgjhdeidhibaaDoorCalLaw0
namespace Go.Proofs.YtlhgjhdeidhibaaDoor.Cal
open Go.RowKit Go.Lib Go.Proofs.YtlhgjhdeidhibaaDoor.Bas
set_option linter.unusedVariables false

set_option maxHeartbeats 4000000 in
theorem months_walk (n k m : Int) (w : World) (hT : Tab w) (hn : (Lit.int .i64 n).wf = true) (hk : (Lit.int .i64 k).wf = true) (hm : (Lit.int .i16 m).wf = true) :
    Calls Tryd.prog 8 #[.int .i64 n, .int .i64 k, .int .i16 m] w (BoolBe true w) := by
  have bn := Go.bounds_i64 hn
  have bk := Go.bounds_i64 hk
  have bm := Go.bounds_i16 hm
  have t1 := Int.lt_tmod_of_pos m (show (0 : Int) < 1300 by omega)
  have t2 := Int.tmod_lt_of_pos m (show (0 : Int) < 1300 by omega)
  have c0 := Lib.hid (fun w => hw_any n w bn.1 bn.2)
  have c1 := Lib.hid (fun w hT => add_any n k w hT bk.1 bk.2)
  have c2 := Lib.hid (fun w => radd_any n k w bk.1 bk.2)
  have c3 := Lib.hid (fun w hT => add_any (hw n) (m.tmod 1300) w hT (by omega) (by omega))
  have c4 := Lib.hid (fun w => radd_any (hw n) (m.tmod 1300) w (by omega) (by omega))
  have c6 := Lib.hid awake_any
  generalize addV n k = R at *
  obtain ⟨r1, r2⟩ := R
  generalize addV (hw n) (m.tmod 1300) = Q at *
  obtain ⟨r3, r4⟩ := Q
  clear hn hk hm
  have hTT := Lib.hid hT
  clear hT
  go_enter Tryd.func8, Tryd.ntmps8
  go_wp2_with fail
  refine (c1.out _ hTT.out).mono ?_; rintro e W1 ⟨rfl, hB⟩
  have b1 := Lib.hid hB
  clear hB c1
  go_wp2_with fail
  refine (c2.out _).mono ?_; rintro e W2 ⟨rfl, hB⟩
  have b2 := Lib.hid (trans_at b1.out hB)
  clear hB b1 c2
  go_wp2_with fail
  refine (c0.out _).mono ?_; rintro e w' ⟨rfl, rfl⟩
  go_wp2_with fail
  refine (c3.out _ (hTT.out.keep b2.out)).mono ?_; rintro e W3 ⟨rfl, hB⟩
  have b3 := Lib.hid (trans_at b2.out hB)
  clear hB b2 c3
  go_wp2_with fail
  refine (c0.out _).mono ?_; rintro e w' ⟨rfl, rfl⟩
  go_wp2_with fail
  refine (c4.out _).mono ?_; rintro e W4 ⟨rfl, hB⟩
  have b4 := Lib.hid (trans_at b3.out hB)
  clear hB b3 c4 c0
  go_wp2_with fail
  refine (c6.out _ (hTT.out.keep b4.out)).mono ?_; rintro e W7 ⟨rfl, hB⟩
  have b7 := Lib.hid (trans_at b4.out hB)
  clear hB b4
  go_wp2_with fail
  go_ret
  exact ⟨rfl, b7.out⟩
end Go.Proofs.YtlhgjhdeidhibaaDoor.Cal
