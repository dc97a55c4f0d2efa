/- LexerBack's walk. -/
import Derived.Test.YtaengcbjpniclaaDoorLxToks
import Derived.Test.YtaengcbjpniclaaDoorLxJoinW
import Derived.Test.YtaengcbjpniclaaDoorLxAwake
import Derived.Test.YtaengcbjpniclaaDoorIntsB
namespace Go.Proofs.YtaengcbjpniclaaDoor.Lx
open Go.RowKit Go.Lib Go.Proofs.YtaengcbjpniclaaDoor.Bas Go.Proofs.YtaengcbjpniclaaDoor.Cal Go.Proofs.YtaengcbjpniclaaDoor.Spl Go.Proofs.YtaengcbjpniclaaDoor.Dk
set_option linter.unusedVariables false

theorem val_len (L : List Tk) (hv : ∀ t ∈ L, wrE t = 0) : ∀ t ∈ L, t.t.length ≤ 9223372036854775807 := by
  intro t ht
  rcases wrE_zero t (hv t ht) with ⟨_, _, h⟩ | ⟨_, h, _⟩ | ⟨_, h, _⟩ | ⟨_, _, h⟩
  · have := (of_decide_eq_true h).2.1; omega
  · rw [h]; simp
  · rw [h]; simp
  · have := markB_le h; omega
theorem same_symm {A B : List Tk} (h : Same A B) : Same B A := Eq.symm h
set_option maxRecDepth 8000 in
set_option maxHeartbeats 8000000 in
theorem backW (v : Value) (l : List Int) (w : World) (hE : Env w) (hI : IntsAt w v l) (hl : l.length ≤ 9223372036854775807) (hw : ∀ x ∈ l, -9223372036854775808 ≤ x ∧ x ≤ 9223372036854775807) :
    Calls Tryd.prog 4 #[v] w (BoolBe true w) := by
  have cT := Lib.hid (toks_any v l w hI hl hw)
  have hE' := Lib.hid hE
  have cA := Lib.hid awake_any
  clear hI hl hw hE
  go_enter Tryd.func4, Tryd.ntmps4
  go_wp2_with fail
  refine cT.out.mono ?_; rintro e W1 ⟨u, L, rfl, hv, hL, hR, hB⟩
  have E1 := Lib.hid (hE'.out.keep hB)
  have B1 := Lib.hid hB
  have T1 := Lib.hid hR.at
  obtain ⟨hj, M, hM, hs⟩ := back_all L hv (by omega) (by have := joinT_len L hv [40]; omega)
  have cJ := Lib.hid (join_any u L W1 E1.out hR.at (val_len L hv) (by omega))
  rw [hj] at cJ
  have hjl := joinT_len L hv [40]
  generalize joinT [40] L = J at *
  have cS := Lib.hid (fun w hE => scan_any (tx J) w hE (by rw [tx_size]; omega))
  rw [bl_tx, hs] at cS
  have hM' := Lib.hid hM
  have hL' := Lib.hid hL
  clear cT hB hR hv hj hs hM hjl hE'
  go_wp2_with fail
  refine cJ.out.mono ?_; rintro e W2 ⟨rfl, hB2⟩
  have E2 := Lib.hid (E1.out.keep hB2)
  have B2 := Lib.hid (B1.out.trans (hB2.mono B1.out.size))
  have T2 := Lib.hid (T1.out.below hB2)
  clear cJ hB2 E1 B1 T1
  go_wp2_with fail
  refine (cS.out _ E2.out).mono ?_; rintro e W3 ⟨u3, rfl, hR3, hB3⟩
  have E3 := Lib.hid (E2.out.keep hB3)
  have B3 := Lib.hid (B2.out.trans (hB3.mono B2.out.size))
  have T3 := Lib.hid (T2.out.below hB3)
  have cC := Lib.hid (same_any u u3 L M W3 T3.out hR3.at (same_symm hM'.out) (by have := hL'.out; omega))
  clear cS hB3 hR3 E2 B2 T2
  go_wp2_with fail
  refine cC.out.mono ?_; rintro e W4 ⟨rfl, ⟨nd, rfl⟩⟩
  go_wp2_with fail
  refine (cA.out _ (E3.out.drewN nd)).mono ?_; rintro e W5 ⟨rfl, hB5⟩
  have B5 := Lib.hid ((below_drewN B3.out nd).trans (hB5.mono B3.out.size))
  clear hB5
  go_wp2_with fail
  go_ret
  exact ⟨rfl, B5.out⟩
theorem back_walk (v : Value) (l : List Int) (w : World) (hE : Env w) (hI : IntsAt w v l) (hl : l.length ≤ 9223372036854775807) (hw : ∀ x ∈ l, (Lit.int .i64 x).wf = true) : Calls Tryd.prog 4 #[v] w (BoolBe true w) :=
  backW v l w hE hI hl (fun x hx => Go.bounds_i64 (hw x hx))
end Go.Proofs.YtaengcbjpniclaaDoor.Lx
