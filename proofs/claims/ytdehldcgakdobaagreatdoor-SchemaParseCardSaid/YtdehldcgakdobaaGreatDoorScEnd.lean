/- The program's functions, as the walks of the statements take them. -/
import Derived.Test.YtdehldcgakdobaaGreatDoorScPForm
import Derived.Test.YtdehldcgakdobaaGreatDoorScEnv
namespace Go.Proofs.YtdehldcgakdobaaGreatDoor.Sc
open Go.RowKit Go.Lib Go.Proofs.YtdehldcgakdobaaGreatDoor.Bas Go.Proofs.YtdehldcgakdobaaGreatDoor.Cal Go.Proofs.YtdehldcgakdobaaGreatDoor.Lx
set_option linter.unusedVariables false

theorem fmt_of : FmtOf EnvS 8 := fun u w L vf f hE hA hl hw hI hlf => pfmt_any u w L vf f hA hl hw hI hlf hE.pow (fun {w w'} h hb => pow_keep h hb)
theorem cnt_of : CountOf EnvS 25 := fun u w L hE hA hl hw => pcount_any u w L hA hl hw
theorem awake_of : AwakeOf EnvS 11 := awake_law evS fmt_of cnt_of
end Go.Proofs.YtdehldcgakdobaaGreatDoor.Sc
