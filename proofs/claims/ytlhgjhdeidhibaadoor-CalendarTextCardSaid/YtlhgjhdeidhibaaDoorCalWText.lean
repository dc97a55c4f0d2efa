/- CalendarText's walk. -/
import Derived.Test.YtlhgjhdeidhibaaDoorCalRead
namespace Go.Proofs.YtlhgjhdeidhibaaDoor.Cal
open Go.RowKit Go.Lib Go.Proofs.YtlhgjhdeidhibaaDoor.Bas
set_option linter.unusedVariables false

set_option maxHeartbeats 4000000 in
theorem text_walk (n : Int) (w : World) (hT : Tab w) (hn : (Lit.int .i64 n).wf = true) : Calls Tryd.prog 6 #[.int .i64 n] w (BoolBe true w) := by
  have bn := Go.bounds_i64 hn
  have hb := hw_bd n
  have c0 := Lib.hid (fun w => hw_any n w bn.1 bn.2)
  have c1 := Lib.hid (fun w hT => format_any n w hT)
  have c2 := Lib.hid (fun w => rformat_any n w)
  have c3 := Lib.hid (fun w hT => format_any (hw n) w hT)
  have c4 := Lib.hid (fun w => rformat_any (hw n) w)
  have hz := fmtT_size (hw n)
  have c5 := Lib.hid (fun w hT => parse_any (fmtT (hw n)) w hT (by omega))
  have c6 := Lib.hid awake_any
  rw [parse_fmt (hw n) hb.1 hb.2] at c5
  rw [show fmtV (hw n) = (fmtT (hw n), 0) by unfold fmtV; rw [if_pos hb]] at c3 c4
  generalize fmtV n = V at *
  obtain ⟨s1, r1⟩ := V
  clear hz
  generalize fmtT (hw n) = s2 at *
  clear hn
  have hTT := Lib.hid hT
  clear hT
  go_enter Tryd.func6, Tryd.ntmps6
  go_wp2_with fail
  refine (c1.out _ hTT.out).mono ?_; rintro e W1 ⟨rfl, hB⟩
  have b1 := Lib.hid hB
  clear hB c1
  go_wp2_with fail
  refine (c2.out _).mono ?_; rintro e W2 ⟨rfl, hB⟩
  have b2 := Lib.hid (trans_at b1.out hB)
  clear hB b1 c2
  go_wp2_with fail
  refine (c0.out _).mono ?_; rintro e w' ⟨rfl, rfl⟩
  go_wp2_with fail
  refine (c3.out _ (hTT.out.keep b2.out)).mono ?_; rintro e W3 ⟨rfl, hB⟩
  have b3 := Lib.hid (trans_at b2.out hB)
  clear hB b2 c3
  go_wp2_with fail
  refine (c5.out _ (hTT.out.keep b3.out)).mono ?_; rintro e W4 ⟨rfl, hB⟩
  have b4 := Lib.hid (trans_at b3.out hB)
  clear hB b3 c5
  go_wp2_with fail
  refine (c0.out _).mono ?_; rintro e w' ⟨rfl, rfl⟩
  go_wp2_with fail
  refine (c4.out _).mono ?_; rintro e W5 ⟨rfl, hB⟩
  have b5 := Lib.hid (trans_at b4.out hB)
  clear hB b4 c4
  go_wp2_with fail
  refine (c0.out _).mono ?_; rintro e w' ⟨rfl, rfl⟩
  go_wp2_with fail
  refine (c6.out _ (hTT.out.keep b5.out)).mono ?_; rintro e W7 ⟨rfl, hB⟩
  have b7 := Lib.hid (trans_at b5.out hB)
  clear hB b5
  go_wp2_with fail
  go_ret
  exact ⟨rfl, b7.out⟩
end Go.Proofs.YtlhgjhdeidhibaaDoor.Cal
