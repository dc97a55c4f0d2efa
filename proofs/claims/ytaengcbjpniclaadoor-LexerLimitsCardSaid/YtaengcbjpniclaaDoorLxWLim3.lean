/- LexerLimits' walk, whole. -/
import Derived.Test.YtaengcbjpniclaaDoorLxWLim2
import Derived.OpenShut
namespace Go.Proofs.YtaengcbjpniclaaDoor.Lx
open Go.RowKit Go.Lib Go.Proofs.YtaengcbjpniclaaDoor.Bas Go.Proofs.YtaengcbjpniclaaDoor.Cal
set_option linter.unusedVariables false

theorem limits_walk (t : Bool) (b : Int) (w : World) (hE : Env w) (hb : (Lit.int .u8 b).wf = true) : Calls Tryd.prog 6 #[.bool t, .int .u8 b] w (BoolBe true w) := by
  cases t
  · exact lim_texts b w hE (Go.bounds_u8 hb).1 (Go.bounds_u8 hb).2
  · exact lim_tokens b w hE (Go.bounds_u8 hb).1 (Go.bounds_u8 hb).2
end Go.Proofs.YtaengcbjpniclaaDoor.Lx
