/- The program's functions, as the walks of the statements take them. -/
import Derived.Test.YtdehldcgakdobaaDoorScPForm
import Derived.Test.YtdehldcgakdobaaDoorScEnv
import Derived.Test.YtdehldcgakdobaaDoorScWFmt
namespace Go.Proofs.YtdehldcgakdobaaDoor.Sc
open Go.RowKit Go.Lib Go.Proofs.YtdehldcgakdobaaDoor.Bas Go.Proofs.YtdehldcgakdobaaDoor.Cal Go.Proofs.YtdehldcgakdobaaDoor.Lx
set_option linter.unusedVariables false

theorem fmt_of : FmtOf EnvS 17 := fun u w L vf f hE hA hl hw hI hlf => pfmt_any u w L vf f hA hl hw hI hlf hE.pow (fun {w w'} h hb => pow_keep h hb)
theorem cnt_of : CountOf EnvS 19 := fun u w L hE hA hl hw => pcount_any u w L hA hl hw
theorem awake_of : AwakeOf EnvS 6 := awake_law evS fmt_of cnt_of
theorem format_walk (u : Value) (L : List At) (vf : Value) (f : List Int) (k : Int) (vd : Value) (l : List Int) (a n : Int) (w : World) (hE : EnvS w)
    (hA : AttsAt w u L) (hl : L.length ≤ 9223372036854775807) (hw : ∀ x ∈ L, AtWf x) (hI : IntsAt w vf f) (hlf : f.length ≤ 9223372036854775807) (hwf : ∀ x ∈ f, (Lit.int .i64 x).wf = true)
    (hk : (Lit.int .i64 k).wf = true) (hD : IntsAt w vd l) (hld : l.length ≤ 9223372036854775807) (hwd : ∀ x ∈ l, (Lit.int .i64 x).wf = true)
    (ha : (Lit.int .i64 a).wf = true) (hn : (Lit.int .i64 n).wf = true) :
    Calls Tryd.prog 5 #[.agg #[u], vf, .int .i64 k, vd, .int .i64 a, .int .i64 n] w (BoolBe true w) :=
  formatW evS fmt_of awake_of u L vf f k vd l a n w hE hA hl hw hI hlf (Go.bounds_i64 hk) hD hld (fun x hx => Go.bounds_i64 (hwd x hx)) (Go.bounds_i64 ha) (Go.bounds_i64 hn)
end Go.Proofs.YtdehldcgakdobaaDoor.Sc
