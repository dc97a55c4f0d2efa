/- CalendarHour's walk. -/
import Derived.Test.YtlhgjhdeidhibaaDoorCalLaw0
namespace Go.Proofs.YtlhgjhdeidhibaaDoor.Cal
open Go.RowKit Go.Lib Go.Proofs.YtlhgjhdeidhibaaDoor.Bas
set_option linter.unusedVariables false

set_option maxHeartbeats 4000000 in
theorem hourW (y m d h u v x : Int) (w : World) (hT : Tab w) (hy : (Lit.int .i64 y).wf = true) (hm : (Lit.int .i64 m).wf = true) (hd : (Lit.int .i64 d).wf = true) (hh : (Lit.int .i64 h).wf = true) (hu : (Lit.int .u16 u).wf = true) (hv : (Lit.int .u8 v).wf = true) (hx : (Lit.int .u8 x).wf = true) :
    Calls Tryd.prog 4 #[.agg #[.int .i64 y, .int .i64 m, .int .i64 d], .int .i64 h, .int .u16 u, .int .u8 v, .int .u8 x] w (BoolBe true w) := by
  have bu := Go.bounds_u16 hu
  have bv := Go.bounds_u8 hv
  have bx := Go.bounds_u8 hx
  have bh := Go.bounds_i64 hh
  have c1 := Lib.hid (fun w hT => hour_any y m d h w hT)
  have c2 := Lib.hid (fun w => rhour_any y m d h w)
  have c3 := Lib.hid (fun Y M D H w hT => hour_any Y M D H w hT)
  have c4 := Lib.hid (fun Y M D H w => rhour_any Y M D H w)
  have c6 := Lib.hid awake_any
  generalize hr : hourV y m d h = R at *
  obtain ⟨r1, r2⟩ := R
  clear hr hy hm hd hh hu hv hx
  have hTT := Lib.hid hT
  clear hT
  have b0 := Lib.hid (alloc1 w (.cells #[.int .i64 y, .int .i64 m, .int .i64 d] 23))
  have D0 := Lib.hid (TriAt.new w y m d)
  go_enter Tryd.func4, Tryd.ntmps4
  go_upto_region 1 with (fail)
  generalize hp : w.heap.size = p0 at D0 ⊢
  generalize w.alloc (.cells #[.int .i64 y, .int .i64 m, .int .i64 d] 23) = W0 at b0 D0 ⊢
  clear hp
  obtain ⟨-, k0, k1, k2, -⟩ := D0.out
  go_wp2_with fail
  refine (c1.out _ (hTT.out.keep b0.out)).mono ?_; rintro e W1 ⟨rfl, hB⟩
  have b1 := Lib.hid (trans_at b0.out hB)
  have D1 := Lib.hid (D0.out.keep hB)
  clear hB k0 k1 k2 b0 D0 c1
  obtain ⟨-, k0, k1, k2, -⟩ := D1.out
  go_wp2_with fail
  refine (c2.out _).mono ?_; rintro e W2 ⟨rfl, hB⟩
  have b2 := Lib.hid (trans_at b1.out hB)
  clear hB k0 k1 k2 b1 D1 c2
  go_upto_region 4 with (fail)
  have b3 := Lib.hid (trans_at b2.out (alloc1 W2 (.cells #[.int .i64 (1999 + u % 103), .int .i64 (v % 14), .int .i64 (x % 33)] 23)))
  have D3 := Lib.hid (TriAt.new W2 (1999 + u % 103) (v % 14) (x % 33))
  clear b2
  generalize hp : W2.heap.size = p3 at D3 ⊢
  generalize W2.alloc (.cells #[.int .i64 (1999 + u % 103), .int .i64 (v % 14), .int .i64 (x % 33)] 23) = W3 at b3 D3 ⊢
  clear hp
  generalize 1999 + u % 103 = Y at *
  generalize v % 14 = M at *
  generalize x % 33 = D at *
  obtain ⟨-, k0, k1, k2, -⟩ := D3.out
  go_wp2_with fail
  have c5 := Lib.hid (c3.out Y M D (bits BinOp.and IntKind.i64 h 31))
  have c7 := Lib.hid (c4.out Y M D (bits BinOp.and IntKind.i64 h 31))
  clear c3 c4
  generalize hR : hourV Y M D (bits BinOp.and IntKind.i64 h 31) = R at c5 c7
  obtain ⟨r3, r4⟩ := R
  clear hR
  refine (c5.out _ (hTT.out.keep b3.out)).mono ?_; rintro e W4 ⟨rfl, hB⟩
  have b4 := Lib.hid (trans_at b3.out hB)
  have D4 := Lib.hid (D3.out.keep hB)
  clear hB k0 k1 k2 b3 D3 c5
  obtain ⟨-, k0, k1, k2, -⟩ := D4.out
  go_wp2_with fail
  refine (c7.out _).mono ?_; rintro e W5 ⟨rfl, hB⟩
  have b5 := Lib.hid (trans_at b4.out hB)
  clear hB k0 k1 k2 b4 D4 c7
  go_wp2_with fail
  refine (c6.out _ (hTT.out.keep b5.out)).mono ?_; rintro e W7 ⟨rfl, hB⟩
  have b7 := Lib.hid (trans_at b5.out hB)
  clear hB b5
  go_wp2_with fail
  go_ret
  exact ⟨rfl, b7.out⟩
end Go.Proofs.YtlhgjhdeidhibaaDoor.Cal
