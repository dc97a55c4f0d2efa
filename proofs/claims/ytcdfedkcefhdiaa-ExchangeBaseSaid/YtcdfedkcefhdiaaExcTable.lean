/- The walk of ExchangeTable. -/
import Derived.Test.YtcdfedkcefhdiaaExcLaw0
import Derived.Test.YtcdfedkcefhdiaaDeckRates
namespace Go.Proofs.Ytcdfedkcefhdiaa.Exc
open Go.RowKit Go.Lib Go.Proofs.Ytcdfedkcefhdiaa.Bas Go.Proofs.Ytcdfedkcefhdiaa.Spl Go.Proofs.Ytcdfedkcefhdiaa.Dk
set_option linter.unusedVariables false

/-- The function f is At, Validate. -/
def AtOf (f : Nat) : Prop := ∀ (v : Value) (l : List Rt) (cur h : Int) (w : World), RatesAt w v l → l.length ≤ 9223372036854775807 → (-9223372036854775808 ≤ cur ∧ cur ≤ 9223372036854775807) → (-9223372036854775808 ≤ h ∧ h ≤ 9223372036854775807) →
  Calls Try.prog f #[v, .int .i64 cur, .int .i64 h] w (NumOut (atV l cur h).1 (atV l cur h).2 w)
def ValOf (f : Nat) : Prop := ∀ (v : Value) (l : List Rt) (w : World), RatesAt w v l → l.length ≤ 9223372036854775807 → Calls Try.prog f #[v] w (ErrBe (ratesV l) w)

set_option maxHeartbeats 4000000 in
theorem table_long (v0 : Value) (l0 : List Rt) (a b : Int) (v1 : Value) (w : World) (hA : Hid (AwakeOf 9)) (h0 : RatesAt w v0 l0) (hl : 300 < l0.length) :
    Calls Try.prog 3 #[v0, .int .i64 a, .int .i64 b, v1] w (BoolBe true w) := by
  obtain ⟨p, c, rfl, -, -⟩ := h0
  have t1 : decide (300 < (l0.length : Int)) = true := by simp; omega
  have hA' := Lib.hid (hA.out w)
  clear hA
  go_enter Try.func3, Try.ntmps3
  go_wp2_with fail
  refine hA'.out.mono ?_; rintro e w1 ⟨rfl, hB⟩
  have hB' := Lib.hid hB
  clear hB
  go_wp2_with fail
  go_ret
  exact ⟨rfl, hB'.out⟩

set_option maxHeartbeats 8000000 in
theorem table_any (hAt : Hid (AtOf 10)) (hVal : Hid (ValOf 15)) (hA : Hid (AwakeOf 9)) (v0 : Value) (l0 : List Rt) (a b : Int) (v1 : Value) (l1 : List Int) (w : World)
    (h0 : RatesAt w v0 l0) (hn0 : l0.length ≤ 9223372036854775807) (ha : (Lit.int .i64 a).wf = true) (hb : (Lit.int .i64 b).wf = true) (h1 : IntsAt w v1 l1) (hn1 : l1.length ≤ 9223372036854775807) (hw1 : ∀ x ∈ l1, (Lit.int .i64 x).wf = true) :
    Calls Try.prog 3 #[v0, .int .i64 a, .int .i64 b, v1] w (BoolBe true w) := by
  by_cases hl : 300 < l0.length
  · exact table_long v0 l0 a b v1 w hA h0 hl
  have cA := Lib.hid (hAt.out v0 l0 a b w h0 hn0 (Go.bounds_i64 ha) (Go.bounds_i64 hb))
  have cAr := Lib.hid (fun W h => rateAt_any v0 l0 a b W h hn0)
  have cV := Lib.hid (fun W h => hVal.out v0 l0 W h hn0)
  have cVr := Lib.hid (fun W h => rrates_any v0 l0 W h hn0)
  have hI0 := Lib.hid h0
  have hI1 := Lib.hid h1
  have hw1' := Lib.hid (fun x (hx : x ∈ l1) => Go.bounds_i64 (hw1 x hx))
  obtain ⟨p, c, rfl, -, -⟩ := h0
  have t1 : decide (300 < (l0.length : Int)) = false := by simp; omega
  clear h1 hw1 hl ha hb
  generalize (atV l0 a b).1 = x1 at *
  generalize (atV l0 a b).2 = r1 at *
  generalize ratesV l0 = q1 at *
  go_enter Try.func3, Try.ntmps3
  go_wp2_with fail
  refine cA.out.mono ?_; rintro e W1 ⟨rfl, hB⟩
  have B1 := Lib.hid hB
  clear hB cA
  go_wp2_with fail
  refine (cAr.out _ (hI0.out.below B1.out)).mono ?_; rintro e W2 ⟨rfl, hB⟩
  have B2 := Lib.hid (trans_at B1.out hB)
  have c3 := Lib.hid (new_any v1 l1 W2 (hI1.out.below (trans_at B1.out hB)) hn1 hw1'.out)
  clear hB cAr B1 hI1
  go_wp2_with fail
  refine c3.out.mono ?_; rintro e W3 ⟨d, rfl, hD, hB⟩
  have B3 := Lib.hid (trans_at B2.out hB)
  have hge := hD.ge
  have hdl := hD.lt
  have hs23 : W2.heap.size ≤ W3.heap.size := hB.size
  have hsw2 : w.heap.size ≤ W2.heap.size := B2.out.size
  have c4 := Lib.hid (rates_any _ d v1 l1 W3 hD)
  clear hB hD c3 B2
  go_wp2_with fail
  refine c4.out.mono ?_; rintro e W4 ⟨u, U, rfl, hU0, hU, hUv, hR, hD4, hK⟩
  have B4 := Lib.hid (B3.out.trans (hK.below (B := w.heap.size) (by omega) (by omega)))
  have U4 := Lib.hid hR
  have hub := Lib.hid (fun g (e : u.ownBlock = some g) => (hR.block g e).1)
  have c5 := Lib.hid (next_any _ d v1 l1 W4 18 (by omega) (by omega) hD4)
  have hs34 : W3.heap.size ≤ W4.heap.size := hK.size
  have hUv' := Lib.hid hUv
  clear hR hD4 hK c4 B3 hUv
  go_wp2_with fail
  refine c5.out.mono ?_; rintro e W5 ⟨cu, hcu, rfl, hD5, hK⟩
  have B5 := Lib.hid (B4.out.trans (hK.below (B := w.heap.size) (by omega) (by omega)))
  have U5 := Lib.hid (rrow_kept U4.out hK (fun e => by have := hub.out d e; omega))
  have c6 := Lib.hid (next_any _ d v1 l1 W5 120 (by omega) (by omega) hD5)
  have hs45 : W4.heap.size ≤ W5.heap.size := hK.size
  clear hD5 hK c5 B4 U4
  go_wp2_with fail
  refine c6.out.mono ?_; rintro e W6 ⟨ho, hho, rfl, hD6, hK⟩
  have B6 := Lib.hid (B5.out.trans (hK.below (B := w.heap.size) (by omega) (by omega)))
  have U6 := Lib.hid (rrow_kept U5.out hK (fun e => by have := hub.out d e; omega))
  have c7 := Lib.hid (hAt.out u U ((cu : Int) - 1) ((ho : Int) - 2) W6 U6.out.at (by omega) (by omega) (by omega))
  have c8 := Lib.hid (fun W h => rateAt_any u U ((cu : Int) - 1) ((ho : Int) - 2) W h (by omega))
  have cV2 := Lib.hid (fun W h => hVal.out u U W h (by omega))
  rw [hUv'.out] at cV2
  generalize (atV U ((cu : Int) - 1) ((ho : Int) - 2)).1 = x2 at *
  generalize (atV U ((cu : Int) - 1) ((ho : Int) - 2)).2 = r2 at *
  clear hD6 hK c6 B5 U5 hAt hVal hub
  go_wp2_with fail
  refine c7.out.mono ?_; rintro e W7 ⟨rfl, hB⟩
  have B7 := Lib.hid (trans_at B6.out hB)
  have U7 := Lib.hid (U6.out.keep hB)
  clear hB c7 B6 U6
  go_wp2_with fail
  refine (c8.out _ U7.out.at).mono ?_; rintro e W8 ⟨rfl, hB⟩
  have B8 := Lib.hid (trans_at B7.out hB)
  have U8 := Lib.hid (U7.out.keep hB)
  clear hB c8 B7 U7
  have t2 : (x1 == x1) = true := by simp
  have t3 : (r1 == r1) = true := by simp
  have t4 : (q1 == q1) = true := by simp
  have t5 : (x2 == x2) = true := by simp
  have t6 : (r2 == r2) = true := by simp
  go_wp2_with fail
  refine (cV.out _ (hI0.out.below B8.out)).mono ?_; rintro e W9 ⟨rfl, hB⟩
  have B9 := Lib.hid (trans_at B8.out hB)
  have U9 := Lib.hid (U8.out.keep hB)
  clear hB cV B8 U8
  go_wp2_with fail
  refine (cVr.out _ (hI0.out.below B9.out)).mono ?_; rintro e W10 ⟨rfl, hB⟩
  have B10 := Lib.hid (trans_at B9.out hB)
  have U10 := Lib.hid (U9.out.keep hB)
  clear hB cVr B9 U9
  go_wp2_with fail
  refine (cV2.out _ U10.out.at).mono ?_; rintro e W11 ⟨rfl, hB⟩
  have B11 := Lib.hid (trans_at B10.out hB)
  clear hB cV2 B10 U10
  go_wp2_with fail
  refine (hA.out _).mono ?_; rintro e W12 ⟨rfl, hB⟩
  have hfin := Lib.hid (show BoolBe true w (.returned (.bool true)) W12 from ⟨rfl, trans_at B11.out hB⟩)
  clear hB hA B11
  go_wp2_with fail
  go_ret
  exact hfin.out
end Go.Proofs.Ytcdfedkcefhdiaa.Exc
