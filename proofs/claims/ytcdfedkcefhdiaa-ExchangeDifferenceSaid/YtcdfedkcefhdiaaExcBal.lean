/- The walk of ExchangeBalance. -/
import Derived.Test.YtcdfedkcefhdiaaExcLaw0
import Derived.Test.YtcdfedkcefhdiaaExcJoin
import Derived.Test.YtcdfedkcefhdiaaDeckCash
namespace Go.Proofs.Ytcdfedkcefhdiaa.Exc
open Go.RowKit Go.Lib Go.Proofs.Ytcdfedkcefhdiaa.Bas Go.Proofs.Ytcdfedkcefhdiaa.Spl Go.Proofs.Ytcdfedkcefhdiaa.Dk
set_option linter.unusedVariables false

set_option maxHeartbeats 4000000 in
theorem balance_long (v0 : Value) (l0 : List Cs) (v1 : Value) (w : World) (hA : Hid (AwakeOf 9)) (h0 : CashAt w v0 l0) (hl : 100 < l0.length) :
    Calls Try.prog 6 #[v0, v1] w (BoolBe true w) := by
  obtain ⟨p, c, rfl, -, -⟩ := h0
  have t1 : decide (100 < (l0.length : Int)) = true := by simp; omega
  have hA' := Lib.hid (hA.out w)
  clear hA
  go_enter Try.func6, Try.ntmps6
  go_wp2_with fail
  refine hA'.out.mono ?_; rintro e w1 ⟨rfl, hB⟩
  have hB' := Lib.hid hB
  clear hB
  go_wp2_with fail
  go_ret
  exact ⟨rfl, hB'.out⟩

set_option maxHeartbeats 8000000 in
theorem balance_any (hN : Hid (NormOf 19)) (hA : Hid (AwakeOf 9)) (v0 : Value) (l0 : List Cs) (v1 : Value) (l1 : List Int) (w : World)
    (h0 : CashAt w v0 l0) (hn0 : l0.length ≤ 9223372036854775807) (h1 : IntsAt w v1 l1) (hn1 : l1.length ≤ 9223372036854775807) (hw1 : ∀ x ∈ l1, (Lit.int .i64 x).wf = true) :
    Calls Try.prog 6 #[v0, v1] w (BoolBe true w) := by
  by_cases hl : 100 < l0.length
  · exact balance_long v0 l0 v1 w hA h0 hl
  have cA := Lib.hid (hN.out v0 l0 w h0 hn0)
  have hI0 := Lib.hid h0
  have hI1 := Lib.hid h1
  have hw1' := Lib.hid (fun x (hx : x ∈ l1) => Go.bounds_i64 (hw1 x hx))
  have hNL := normV_length l0
  have hq : Hid (CashAt w v0 l0 ∧ True) := Lib.hid ⟨h0, trivial⟩
  obtain ⟨p, c, rfl, -, -⟩ := h0
  have t1 : decide (100 < (l0.length : Int)) = false := by simp; omega
  clear h1 hw1 hl hq
  generalize hNl : (normV l0).1 = NA at *
  generalize hNr : (normV l0).2 = RA at *
  have hNl' := Lib.hid hNl
  have hNr' := Lib.hid hNr
  clear hNl hNr
  go_enter Try.func6, Try.ntmps6
  go_wp2_with fail
  refine cA.out.mono ?_; rintro e W1 ⟨a, rfl, hR, hB⟩
  have RA1 := Lib.hid hR
  have B1 := Lib.hid hB
  have cB := (norm_any _ l0 W1 (hI0.out.below hB) hn0)
  rw [hNl'.out, hNr'.out] at cB
  have cB' := Lib.hid cB
  clear hR hB cB cA hI0
  go_wp2_with fail
  refine cB'.out.mono ?_; rintro e W2 ⟨b, rfl, hR, hB⟩
  have RA2 := Lib.hid (RA1.out.keep hB)
  have RB2 := Lib.hid (hR.mono B1.out.size)
  have B2 := Lib.hid (B1.out.trans (hB.mono B1.out.size))
  clear hR hB cB' RA1 B1
  have c3 := Lib.hid (new_any v1 l1 W2 (hI1.out.below B2.out) hn1 hw1'.out)
  clear hI1
  go_wp2_with fail
  refine c3.out.mono ?_; rintro e W3 ⟨d, rfl, hD, hB⟩
  have RA3 := Lib.hid (RA2.out.keep hB)
  have RB3 := Lib.hid (RB2.out.keep hB)
  have B3 := Lib.hid (B2.out.trans (hB.mono B2.out.size))
  have hge := hD.ge
  have hsz2 : W2.heap.size ≤ W3.heap.size := hB.size
  have c4 := Lib.hid (cash_any _ d v1 l1 W3 12 (by omega) hD)
  have hgA := Lib.hid (fun g (e : a.ownBlock = some g) => (crow_block RA2.out g e).2)
  have hgB := Lib.hid (fun g (e : b.ownBlock = some g) => (crow_block RB2.out g e).2)
  have hw2 : w.heap.size ≤ W2.heap.size := B2.out.size
  clear hB c3 RA2 RB2 hD
  go_wp2_with fail
  refine c4.out.mono ?_; rintro e W4 ⟨x, L, rfl, hL, hLc, hR, hD4, hK⟩
  have RA4 := Lib.hid (crow_kept RA3.out hK (fun e => by have := hgA.out d e; omega))
  have RB4 := Lib.hid (crow_kept RB3.out hK (fun e => by have := hgB.out d e; omega))
  have B4 := Lib.hid (B3.out.trans (hK.below (B := w.heap.size) (by omega) (by omega)))
  have hX := Lib.hid hR.at
  have c5 := Lib.hid (hN.out x L W4 hR.at (by omega))
  have hNL2 := normV_length L
  generalize hMl : (normV L).1 = NB at *
  generalize hMr : (normV L).2 = RB at *
  have hMl' := Lib.hid hMl
  have hMr' := Lib.hid hMr
  clear hMl hMr RA3 RB3 B3 c4 hR hD4 hK hN hLc hgA hgB
  go_wp2_with fail
  refine c5.out.mono ?_; rintro e W5 ⟨y, rfl, hR, hB⟩
  have RA5 := Lib.hid (RA4.out.keep hB)
  have RB5 := Lib.hid (RB4.out.keep hB)
  have B5 := Lib.hid (trans_at B4.out hB)
  have RY5 := Lib.hid hR
  have c6 := norm_any x L W5 (hX.out.below hB) (by omega)
  rw [hMl'.out, hMr'.out] at c6
  have c6' := Lib.hid c6
  clear hR hB RA4 RB4 B4 c5 c6 hX
  go_wp2_with fail
  refine c6'.out.mono ?_; rintro e W6 ⟨z, rfl, hR, hB⟩
  have sA := Lib.hid (same_yes a b NA W6 (RA5.out.keep hB).at (RB5.out.keep hB).at (by omega))
  have sB := Lib.hid (fun n => same_yes y z NB (W6.drewN n) (RY5.out.keep hB).at hR.at (by omega))
  have B6 := Lib.hid (trans_at B5.out hB)
  have hAw := Lib.hid (fun n => hA.out (W6.drewN n))
  clear hR hB RA5 RB5 RY5 B5 c6' hA
  have t2 : (RA == RA) = true := by simp
  have t3 : (RB == RB) = true := by simp
  go_wp2_with fail
  refine sA.out.mono ?_; rintro e w' ⟨rfl, n, rfl⟩
  go_wp2_with fail
  refine (sB.out _).mono ?_; rintro e w' ⟨rfl, m, rfl⟩
  go_wp2_with fail
  refine (hAw.out _).mono ?_; rintro e W7 ⟨rfl, hB⟩
  have hfin := Lib.hid (show BoolBe true w (.returned (.bool true)) W7 from ⟨rfl, trans_at (below_drewN B6.out _) hB⟩)
  clear hB hAw B6
  go_wp2_with fail
  go_ret
  exact hfin.out
end Go.Proofs.Ytcdfedkcefhdiaa.Exc
