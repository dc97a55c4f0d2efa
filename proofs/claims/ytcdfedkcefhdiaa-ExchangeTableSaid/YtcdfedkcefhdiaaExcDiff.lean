/- The walk of ExchangeDifference. -/
import Derived.Test.YtcdfedkcefhdiaaExcDiff0
namespace Go.Proofs.Ytcdfedkcefhdiaa.Exc
open Go.RowKit Go.Lib Go.Proofs.Ytcdfedkcefhdiaa.Bas Go.Proofs.Ytcdfedkcefhdiaa.Spl Go.Proofs.Ytcdfedkcefhdiaa.Dk
set_option linter.unusedVariables false

set_option maxHeartbeats 4000000 in
theorem diff_p (v0 : Value) (l0 : List Cs) (v1 : Value) (l1 : List Cs) (v2 : Value) (w : World) (hA : Hid (AwakeOf 9)) (h0 : CashAt w v0 l0) (h1 : CashAt w v1 l1) (hl : 60 < l0.length) :
    Calls Try.prog 8 #[v0, v1, v2] w (BoolBe true w) := by
  obtain ⟨p, c, rfl, -, -⟩ := h0
  obtain ⟨p1, c1, rfl, -, -⟩ := h1
  have t1 : decide (60 < (l0.length : Int)) = true := by simp; omega
  have hA' := Lib.hid (hA.out w)
  clear hA
  go_enter Try.func8, Try.ntmps8
  go_wp2_with fail
  refine hA'.out.mono ?_; rintro e w1 ⟨rfl, hB⟩
  have hB' := Lib.hid hB
  clear hB
  go_wp2_with fail
  go_ret
  exact ⟨rfl, hB'.out⟩

set_option maxHeartbeats 4000000 in
theorem diff_q (v0 : Value) (l0 : List Cs) (v1 : Value) (l1 : List Cs) (v2 : Value) (w : World) (hA : Hid (AwakeOf 9)) (h0 : CashAt w v0 l0) (h1 : CashAt w v1 l1) (hl : l0.length ≤ 60) (hl1 : 60 < l1.length) :
    Calls Try.prog 8 #[v0, v1, v2] w (BoolBe true w) := by
  obtain ⟨p, c, rfl, -, -⟩ := h0
  obtain ⟨p1, c1, rfl, -, -⟩ := h1
  have t1 : decide (60 < (l0.length : Int)) = false := by simp; omega
  have t2 : decide (60 < (l1.length : Int)) = true := by simp; omega
  have hA' := Lib.hid (hA.out w)
  clear hA
  go_enter Try.func8, Try.ntmps8
  go_wp2_with fail
  refine hA'.out.mono ?_; rintro e w1 ⟨rfl, hB⟩
  have hB' := Lib.hid hB
  clear hB
  go_wp2_with fail
  go_ret
  exact ⟨rfl, hB'.out⟩

set_option maxHeartbeats 16000000 in
theorem difference_any (hN : Hid (NormOf 19)) (hAdd : Hid (JoinOf 1 24)) (hSub : Hid (JoinOf (-1) 26)) (hA : Hid (AwakeOf 9))
    (v0 : Value) (l0 : List Cs) (v1 : Value) (l1 : List Cs) (v2 : Value) (l2 : List Int) (w : World)
    (h0 : CashAt w v0 l0) (hn0 : l0.length ≤ 9223372036854775807) (h1 : CashAt w v1 l1) (hn1 : l1.length ≤ 9223372036854775807) (h2 : IntsAt w v2 l2) (hn2 : l2.length ≤ 9223372036854775807) (hw2 : ∀ x ∈ l2, (Lit.int .i64 x).wf = true) :
    Calls Try.prog 8 #[v0, v1, v2] w (BoolBe true w) := by
  by_cases hl : 60 < l0.length
  · exact diff_p v0 l0 v1 l1 v2 w hA h0 h1 hl
  by_cases hl1 : 60 < l1.length
  · exact diff_q v0 l0 v1 l1 v2 w hA h0 h1 (by omega) hl1
  have cA := Lib.hid (hAdd.out v0 v1 l0 l1 w h0 h1 (by omega) (by omega))
  have hI0 := Lib.hid h0
  have hI1 := Lib.hid h1
  have hI2 := Lib.hid h2
  have hw2' := Lib.hid (fun x (hx : x ∈ l2) => Go.bounds_i64 (hw2 x hx))
  have hN1 := normV_length (joinV l0 l1 1)
  have hN2 := normV_length (joinV l0 l1 (-1))
  have hJ1 := joinV_length l0 l1 1
  have hJ2 := joinV_length l0 l1 (-1)
  obtain ⟨p, c, rfl, -, -⟩ := h0
  obtain ⟨p1, c1, rfl, -, -⟩ := h1
  have t1 : decide (60 < (l0.length : Int)) = false := by simp; omega
  have t2 : decide (60 < (l1.length : Int)) = false := by simp; omega
  clear h2 hw2
  have hl60 : l0.length ≤ 60 := by omega
  have hl61 : l1.length ≤ 60 := by omega
  clear hl hl1
  generalize hE1 : (normV (joinV l0 l1 1)).1 = N1 at *
  generalize hE2 : (normV (joinV l0 l1 1)).2 = r1 at *
  generalize hE3 : (normV (joinV l0 l1 (-1))).1 = N2 at *
  generalize hE4 : (normV (joinV l0 l1 (-1))).2 = r2 at *
  have E1 := Lib.hid hE1
  have E2 := Lib.hid hE2
  have E3 := Lib.hid hE3
  have E4 := Lib.hid hE4
  clear hE1 hE2 hE3 hE4
  go_enter Try.func8, Try.ntmps8
  go_wp2_with fail
  refine cA.out.mono ?_; rintro e W1 ⟨a, rfl, hR, hB⟩
  have B1 := Lib.hid hB
  have A1 := Lib.hid hR
  have c2 := Lib.hid (joined_any _ _ l0 l1 1 W1 (hI0.out.below hB) (hI1.out.below hB) (by omega) (by omega) (.inl rfl))
  clear hR hB cA
  go_wp2_with fail
  refine c2.out.mono ?_; rintro e W2 ⟨j, rfl, hR, hB⟩
  have B2 := Lib.hid (trans_at B1.out hB)
  have A2 := Lib.hid (A1.out.keep hB)
  have c3 := norm_any j _ W2 hR.at (by omega)
  rw [E1.out, E2.out] at c3
  have c3' := Lib.hid c3
  clear hR hB c2 B1 A1 c3
  go_wp2_with fail
  refine c3'.out.mono ?_; rintro e W3 ⟨b, rfl, hR, hB⟩
  have B3 := Lib.hid (trans_at B2.out hB)
  have A3 := Lib.hid (A2.out.keep hB)
  have C3 := Lib.hid hR
  have c4 := hSub.out _ _ l0 l1 W3 (hI0.out.below B3.out) (hI1.out.below B3.out) (by omega) (by omega)
  rw [E3.out, E4.out] at c4
  have c4' := Lib.hid c4
  clear hR hB c3' B2 A2 c4
  go_wp2_with fail
  refine c4'.out.mono ?_; rintro e W4 ⟨f, rfl, hR, hB⟩
  have B4 := Lib.hid (trans_at B3.out hB)
  have A4 := Lib.hid (A3.out.keep hB)
  have C4 := Lib.hid (C3.out.keep hB)
  have F4 := Lib.hid hR
  have c5 := Lib.hid (joined_any _ _ l0 l1 (-1) W4 (hI0.out.below B4.out) (hI1.out.below B4.out) (by omega) (by omega) (.inr rfl))
  clear hR hB c4' B3 A3 C3
  go_wp2_with fail
  refine c5.out.mono ?_; rintro e W5 ⟨k, rfl, hR, hB⟩
  have B5 := Lib.hid (trans_at B4.out hB)
  have A5 := Lib.hid (A4.out.keep hB)
  have C5 := Lib.hid (C4.out.keep hB)
  have F5 := Lib.hid (F4.out.keep hB)
  have c6 := norm_any k _ W5 hR.at (by omega)
  rw [E3.out, E4.out] at c6
  have c6' := Lib.hid c6
  clear hR hB c5 B4 A4 C4 F4 c6
  go_wp2_with fail
  refine c6'.out.mono ?_; rintro e W6 ⟨g, rfl, hR, hB⟩
  have B6 := Lib.hid (trans_at B5.out hB)
  have sA := Lib.hid (same_yes a b N1 W6 (A5.out.keep hB).at (C5.out.keep hB).at (by omega))
  have sB := Lib.hid (fun n => same_yes f g N2 (W6.drewN n) (F5.out.keep hB).at hR.at (by omega))
  clear hR hB c6' B5 A5 C5 F5
  have t3 : (r1 != r1) = false := by simp
  have t4 : (r2 != r2) = false := by simp
  have t5 : (r1 == r1) = true := by simp
  have t6 : (r2 == r2) = true := by simp
  go_wp2_with fail
  refine sA.out.mono ?_; rintro e w' ⟨rfl, n, rfl⟩
  go_wp2_with fail
  refine (sB.out _).mono ?_; rintro e w' ⟨rfl, m, rfl⟩
  have B7 := Lib.hid (below_drewN B6.out (n + m))
  clear sA sB B6 t3 t4 t5 t6
  go_wp2_with fail
  generalize hW7 : W6.drewN (n + m) = W7 at *
  clear hW7
  have c7 := Lib.hid (new_any _ l2 W7 (hI2.out.below B7.out) hn2 hw2'.out)
  clear hI0 hI1 hI2
  refine c7.out.mono ?_; rintro e W8 ⟨d, rfl, hD, hB⟩
  have B8 := Lib.hid (trans_at B7.out hB)
  have hge := hD.ge
  have hdl := hD.lt
  have hsw : w.heap.size ≤ W7.heap.size := B7.out.size
  have hs78 : W7.heap.size ≤ W8.heap.size := hB.size
  have c8 := Lib.hid (cash_any _ d _ l2 W8 8 (by omega) hD)
  clear hB hD c7 B7
  go_wp2_with fail
  refine c8.out.mono ?_; rintro e W9 ⟨x, X, rfl, hX, hXc, hR, hD9, hK⟩
  have B9 := Lib.hid (B8.out.trans (hK.below (B := w.heap.size) (by omega) (by omega)))
  have X9 := Lib.hid hR
  have hXc' := Lib.hid hXc
  have hxb := Lib.hid (fun g (e : x.ownBlock = some g) => (crow_block hR g e).1)
  have c9 := Lib.hid (cash_any _ d _ l2 W9 8 (by omega) hD9)
  have hs89 : W8.heap.size ≤ W9.heap.size := hK.size
  clear hXc hR hD9 hK c8 B8
  go_wp2_with fail
  refine c9.out.mono ?_; rintro e W10 ⟨y, Y, rfl, hY, hYc, hR, hD10, hK⟩
  have B10 := Lib.hid (B9.out.trans (hK.below (B := w.heap.size) (by omega) (by omega)))
  have X10 := Lib.hid (crow_kept X9.out hK (fun e => by have := hxb.out d e; omega))
  have Y10 := Lib.hid hR
  have hM1 := norm_sum X Y hXc'.out hYc hX hY
  have hM2 := norm_back X Y hXc'.out hYc hX hY
  have hM3 := norm_only X hXc'.out hX
  have hL3 := balK_length X 16
  have hL4 := balK_length (joinV X Y 1) 16
  have c10 := hAdd.out x y X Y W10 X10.out.at Y10.out.at (by omega) (by omega)
  rw [hM1] at c10
  have c10' := Lib.hid c10
  generalize balK (joinV X Y 1) 16 = S at *
  have hM2' := Lib.hid hM2
  have hM3' := Lib.hid hM3
  generalize balK X 16 = Z at *
  clear hR hD10 hK c9 B9 X9 hYc c10 hM1 hM2 hM3 hAdd hXc' hxb
  go_wp2_with fail
  refine c10'.out.mono ?_; rintro e W11 ⟨s, rfl, hR, hB⟩
  have B11 := Lib.hid (trans_at B10.out hB)
  have X11 := Lib.hid (X10.out.keep hB)
  have Y11 := Lib.hid (Y10.out.keep hB)
  have c11 := hSub.out s y S Y W11 hR.at Y11.out.at (by omega) (by omega)
  rw [hM2'.out] at c11
  have c11' := Lib.hid c11
  clear hR hB c10' B10 X10 Y10 c11 hSub
  go_wp2_with fail
  refine c11'.out.mono ?_; rintro e W12 ⟨t, rfl, hR, hB⟩
  have B12 := Lib.hid (trans_at B11.out hB)
  have X12 := Lib.hid (X11.out.keep hB)
  have T12 := Lib.hid hR
  have c12 := hN.out x X W12 X12.out.at (by omega)
  rw [hM3'.out] at c12
  have c12' := Lib.hid c12
  clear hR hB c11' B11 X11 Y11 c12 hN
  go_wp2_with fail
  refine c12'.out.mono ?_; rintro e W13 ⟨z, rfl, hR, hB⟩
  have B13 := Lib.hid (trans_at B12.out hB)
  have sC := Lib.hid (same_yes t z Z W13 (T12.out.keep hB).at hR.at (by omega))
  have hAw := Lib.hid (fun n => hA.out (W13.drewN n))
  clear hR hB c12' B12 X12 T12 hA
  go_wp2_with fail
  refine sC.out.mono ?_; rintro e w' ⟨rfl, n3, rfl⟩
  go_wp2_with fail
  refine (hAw.out _).mono ?_; rintro e W14 ⟨rfl, hB⟩
  have hfin := Lib.hid (show BoolBe true w (.returned (.bool true)) W14 from ⟨rfl, trans_at (below_drewN B13.out _) hB⟩)
  clear hB hAw B13
  go_wp2_with fail
  go_ret
  exact hfin.out
end Go.Proofs.Ytcdfedkcefhdiaa.Exc
