/- The walk of ExchangeOrder. -/
import Derived.Test.YtcdfedkcefhdiaaExcOrd0
namespace Go.Proofs.Ytcdfedkcefhdiaa.Exc
open Go.RowKit Go.Lib Go.Proofs.Ytcdfedkcefhdiaa.Bas Go.Proofs.Ytcdfedkcefhdiaa.Spl Go.Proofs.Ytcdfedkcefhdiaa.Dk
set_option linter.unusedVariables false

set_option maxHeartbeats 8000000 in
theorem order_law (hVal : Hid (ValOf 15)) (hA : Hid (AwakeOf 9)) (v0 : Value) (l0 : List Int) (a : Int) (xc xf xp : Int) (w : World)
    (h0 : IntsAt w v0 l0) (hn0 : l0.length ≤ 9223372036854775807) (hw0 : ∀ x ∈ l0, (Lit.int .i64 x).wf = true) (ha : (Lit.int .i64 a).wf = true) (hc : (Lit.int .i64 xc).wf = true) (hf : (Lit.int .i64 xf).wf = true) (hp : (Lit.int .i64 xp).wf = true) :
    Calls Try.prog 4 #[v0, .int .i64 a, .agg #[.int .i64 xc, .int .i64 xf, .int .i64 xp]] w (BoolBe true w) := by
  have hal := alloc1 w (.cells #[.int .i64 xc, .int .i64 xf, .int .i64 xp] 35)
  have B0 := Lib.hid hal
  have X0 := Lib.hid (RAt.new w xc xf xp 35)
  have c1 := Lib.hid (new_any v0 l0 _ (h0.below hal) hn0 (fun x (hx : x ∈ l0) => Go.bounds_i64 (hw0 x hx)))
  have cW := Lib.hid (fun (n : Nat) W (h1 : 0 < n) (h2 : n ≤ 9) => within_any a n W (Go.bounds_i64 ha).1 (Go.bounds_i64 ha).2 (by omega) (by omega))
  clear h0 hw0 ha hal
  go_enter Try.func4, Try.ntmps4
  go_wp2_with fail
  refine c1.out.mono ?_; rintro e W1 ⟨d, rfl, hD, hB⟩
  have B1 := Lib.hid (trans_at B0.out hB)
  have X1 := Lib.hid (X0.out.keep hB)
  have hge := hD.ge
  have hdl := hD.lt
  have hs01 := hB.size
  have c2 := Lib.hid (rates_any _ d v0 l0 W1 hD)
  clear hB hD c1
  go_wp2_with fail
  refine c2.out.mono ?_; rintro e W2 ⟨u, U, rfl, hU0, hU, hUv, hR, hD2, hK⟩
  have U2 := Lib.hid hR
  have bw : w.heap.size < d := by simp at hge; omega
  have B2 := Lib.hid (B1.out.trans (hK.below (B := w.heap.size) (by omega) B1.out.size))
  have X2 := Lib.hid (rat_kept X1.out hK (by omega))
  obtain ⟨pu, cu, rfl, -, -⟩ := hR.at
  have hwi := wi_bd a U.length (by omega)
  have c3 := Lib.hid (cW.out U.length W2 hU0 hU)
  obtain ⟨k, hk⟩ : ∃ k : Nat, wi a U.length = k := ⟨(wi a U.length).toNat, by omega⟩
  rw [hk] at c3 hwi
  have hkU : k < U.length := by omega
  clear hR hD2 hK c2 B1 cW hk hwi
  go_wp2_with fail
  refine c3.out.mono ?_; rintro e w' ⟨rfl, rfl⟩
  have E2 := Lib.hid (rrow_lit0 W2.heap.size W2 (Nat.le_refl _))
  have U3 := Lib.hid ((U2.out.alloc (.cells #[] 35)).at)
  have B3 := Lib.hid ((Below.refl W2.heap.size W2).alloc (Nat.le_refl _) (.cells #[] 35))
  go_upto_region 4 with (at_builtin; refine wpList_append_rates rfl (.tmp 19) (.tmp 20) rfl W2.heap.size _ [] rfl E2.out _ U rfl U3.out (by simp; omega) (by simp) ?_; intro v' W4 hown hgrow)
  rw [List.nil_append] at hown
  have B4 := Lib.hid (B3.out.grown hgrow (by simp) (fun g hg => by
    have e : (Value.slice (some ⟨W2.heap.size, 0, none⟩) 0 0).ownBlock = some g := hg
    simp [Value.ownBlock] at e; omega))
  obtain ⟨g1, q1, rfl, hg1, hg1s, hcell⟩ := rrow_shape hown hU0
  obtain ⟨y0, y1, y2⟩ := hcell k hkU
  have f0 := hown.frozen (k * 3)
  have f1 := hown.frozen (k * 3 + 1)
  have f2 := hown.frozen (k * 3 + 2)
  have hst := Lib.hid (hown.setAll k hkU ⟨xc, xf, xp⟩)
  have X4 := X2.out.keep B4.out
  obtain ⟨_, x0, x1, x2⟩ := X4
  have B5 := Lib.hid (((B4.out.setCell (p := ⟨g1, k * 3, none⟩) hg1 (.int .i64 xc)).setCell (p := ⟨g1, k * 3 + 1, none⟩) hg1 (.int .i64 xf)).setCell (p := ⟨g1, k * 3 + 2, none⟩) hg1 (.int .i64 xp))
  have hkl : (k : Int) < (U.length : Int) := by omega
  have z1 : ∀ v, (W4.setCell ⟨g1, k * 3, none⟩ v).cell? ⟨g1, k * 3 + 1, none⟩ = some (.int .i64 (rt U k).f) := fun v => by
    rw [World.cell?_setCell_other _ _ _ _ (by intro e; simp only [Addr.mk.injEq] at e; omega)]; exact y1
  have z2 : ∀ v v2, ((W4.setCell ⟨g1, k * 3, none⟩ v).setCell ⟨g1, k * 3 + 1, none⟩ v2).cell? ⟨g1, k * 3 + 2, none⟩ = some (.int .i64 (rt U k).p) := fun v v2 => by
    rw [World.cell?_setCell_other _ _ _ _ (by intro e; simp only [Addr.mk.injEq] at e; omega), World.cell?_setCell_other _ _ _ _ (by intro e; simp only [Addr.mk.injEq] at e; omega)]; exact y2
  clear hgrow hown hcell E2 U3 B3 B4
  have hub := re_zero U k ((rates_ok U hUv).2 k hkU)
  have hb1 := hub.2.2.1
  have hb2 := hub.2.2.2.1
  clear hub hUv
  generalize hUC : (rt U k).c = uc at *
  generalize hUF : (rt U k).f = uf at *
  generalize hUP : (rt U k).p = up at *
  have hUC := Lib.hid hUC
  have hUF := Lib.hid hUF
  have hUP := Lib.hid hUP
  go_upto_region 5 with fail
  generalize ((W4.setCell ⟨g1, k * 3, none⟩ (.int .i64 xc)).setCell ⟨g1, k * 3 + 1, none⟩ (.int .i64 xf)).setCell ⟨g1, k * 3 + 2, none⟩ (.int .i64 xp) = W5 at *
  clear z1 z2 y0 y1 y2 f0 f1 f2 x0 x1 x2
  have E5 := Lib.hid (rrow_lit0 W5.heap.size W5 (Nat.le_refl _))
  have U5 := Lib.hid (((U2.out.keep B5.out).alloc (.cells #[] 35)).at)
  have B6 := Lib.hid ((Below.refl W5.heap.size W5).alloc (Nat.le_refl _) (.cells #[] 35))
  go_upto_region 6 with (at_builtin; refine wpList_append_rates rfl (.tmp 26) (.tmp 27) rfl W5.heap.size _ [] rfl E5.out _ U rfl U5.out (by simp; omega) (by simp) ?_; intro v' W6 hown hgrow)
  rw [List.nil_append] at hown
  have B7 := Lib.hid (B6.out.grown hgrow (by simp) (fun g hg => by
    have e : (Value.slice (some ⟨W5.heap.size, 0, none⟩) 0 0).ownBlock = some g := hg
    simp [Value.ownBlock] at e; omega))
  obtain ⟨g2, q2, rfl, hg2, hg2s, hcell⟩ := rrow_shape hown hU0
  obtain ⟨_, y1, _⟩ := hcell k hkU
  rw [hUF.out] at y1
  have f1 := hown.frozen (k * 3 + 1)
  have T6 := Lib.hid (hst.out.keep B7.out)
  have B8 := Lib.hid (B5.out.trans (B7.out.mono B5.out.size))
  have hsz5' := Lib.hid B5.out.size
  have hst5 := Lib.hid (show g1 < W5.heap.size from (hst.out.block g1 rfl).2)
  obtain ⟨_, x0, x1, x2⟩ := X2.out.keep B8.out
  have R6 := Lib.hid hown
  have cX := Lib.hid (fun W => within_any xf 90 W (Go.bounds_i64 hf).1 (Go.bounds_i64 hf).2 (by omega) (by omega))
  have bX := wi_bd xf 90 (by omega)
  generalize wi xf 90 = xw at *
  have bX1 := bX.1
  have bX2 := bX.2
  clear hgrow hown hcell E5 U5 B5 B6 B7 hst bX x0 x2
  have hwr1 : Hid (IntKind.i64.wrap (uf + xw) = uf + xw) := Lib.hid (Go.IntWalk.i64_in _ ⟨by omega, by omega⟩)
  have hwr2 : Hid (IntKind.i64.wrap (uf + xw - 30) = uf + xw - 30) := Lib.hid (Go.IntWalk.i64_in _ ⟨by omega, by omega⟩)
  have hsz5 : W2.heap.size ≤ W5.heap.size := hsz5'.out
  have hg1w : g1 < W5.heap.size := by have := hst5.out; omega
  go_cut [10] (fun t wx => t = .slice (some ⟨g2, 0, none⟩) U.length q2 ∧ ∃ n, wx = (W6.setCell ⟨g2, k * 3 + 1, none⟩ (.int .i64 (uf + xw - 30))).drewN n)
  case first =>
    go_region_with (refine (cX.out _).mono ?_; rintro e w' ⟨rfl, rfl⟩)
    all_goals
      rw [hwr1.out, hwr2.out]
      go_wp2_with fail
      go_meet
      case rel => exact ⟨rfl, 1, rfl⟩
  case rest =>
    obtain ⟨rfl, nd, rfl⟩ := hcut
    have V7 := Lib.hid (show RRow W5.heap.size ((W6.setCell ⟨g2, k * 3 + 1, none⟩ (.int .i64 (uf + xw - 30))).drewN nd) _ _ from R6.out.setF k hkU (uf + xw - 30))
    have B9 := Lib.hid (below_drewN (B8.out.setCell (p := ⟨g2, k * 3 + 1, none⟩) (show W2.heap.size ≤ g2 by omega) (.int .i64 (uf + xw - 30))) nd)
    have T7 := Lib.hid (T6.out.below (C := W5.heap.size) (w' := (W6.setCell ⟨g2, k * 3 + 1, none⟩ (.int .i64 (uf + xw - 30))).drewN nd) (below_drewN ((Below.refl W5.heap.size W6).setCell (p := ⟨g2, k * 3 + 1, none⟩) hg2 _) nd) (fun g e => by cases e; exact hg1w))
    clear R6 B8 T6 y1 f1 x1
    generalize (W6.setCell ⟨g2, k * 3 + 1, none⟩ (.int .i64 (uf + xw - 30))).drewN nd = W7 at *
    have E7 := Lib.hid (rrow_lit0 W7.heap.size W7 (Nat.le_refl _))
    have U7 := Lib.hid (((U2.out.keep B9.out).alloc (.cells #[] 35)).at)
    have BA := Lib.hid ((Below.refl W7.heap.size W7).alloc (Nat.le_refl _) (.cells #[] 35))
    go_upto_region 8 with (at_builtin; refine wpList_append_rates rfl (.tmp 43) (.tmp 44) rfl W7.heap.size _ [] rfl E7.out _ U rfl U7.out (by simp; omega) (by simp) ?_; intro v' W8 hown hgrow)
    rw [List.nil_append] at hown
    have BB := Lib.hid (BA.out.grown hgrow (by simp) (fun g hg => by
      have e : (Value.slice (some ⟨W7.heap.size, 0, none⟩) 0 0).ownBlock = some g := hg
      simp [Value.ownBlock] at e; omega))
    obtain ⟨g3, q3, rfl, hg3, hg3s, hcell⟩ := rrow_shape hown hU0
    obtain ⟨y0, _, _⟩ := hcell k hkU
    have f0 := hown.frozen (k * 3)
    have T8 := Lib.hid (T7.out.keep BB.out)
    have V8 := Lib.hid (V7.out.keep BB.out)
    have B10 := Lib.hid (B9.out.trans (BB.out.mono B9.out.size))
    obtain ⟨_, x0, x1, x2⟩ := X2.out.keep B10.out
    have hg1v : g1 < W7.heap.size := (T7.out.block g1 rfl).2
    have hg2v : g2 < W7.heap.size := (V7.out.block g2 rfl).2
    have hsz7 : W2.heap.size ≤ W7.heap.size := B9.out.size
    have R8 := Lib.hid hown
    have cC := Lib.hid (fun W => within_any xc 5 W (Go.bounds_i64 hc).1 (Go.bounds_i64 hc).2 (by omega) (by omega))
    generalize wi xc 5 = xd at *
    clear hgrow hown hcell E7 U7 BA BB T7 V7 B9 x1 x2
    go_wp2_with fail
    refine (cC.out _).mono ?_; rintro e w' ⟨rfl, rfl⟩
    go_upto_region 9 with fail
    have S9 := Lib.hid (R8.out.setC k hkU xd)
    have bs : Below W7.heap.size W8 (W8.setCell ⟨g3, k * 3, none⟩ (.int .i64 xd)) := (Below.refl W7.heap.size W8).setCell (p := ⟨g3, k * 3, none⟩) hg3 _
    have T9 := Lib.hid (T8.out.below bs (fun g e => by cases e; exact hg1v))
    have V9 := Lib.hid (V8.out.below bs (fun g e => by cases e; exact hg2v))
    have B11 := Lib.hid (B2.out.trans ((B10.out.setCell (p := ⟨g3, k * 3, none⟩) (show W2.heap.size ≤ g3 by omega) (.int .i64 xd)).mono B2.out.size))
    clear bs R8 T8 V8 B10 x0 y0 f0
    generalize W8.setCell ⟨g3, k * 3, none⟩ (.int .i64 xd) = W9 at *
    generalize hTL : U.set k ⟨xc, xf, xp⟩ = TL at *
    generalize hVL : U.set k ⟨(rt U k).c, uf + xw - 30, (rt U k).p⟩ = VL at *
    generalize hSL : U.set k ⟨xd, (rt U k).f, (rt U k).p⟩ = SL at *
    have lT : TL.length ≤ 9 := by rw [← hTL, List.length_set]; exact hU
    have lV : VL.length ≤ 9 := by rw [← hVL, List.length_set]; exact hU
    have lS : SL.length ≤ 9 := by rw [← hSL, List.length_set]; exact hU
    clear hTL hVL hSL
    have cT1 := Lib.hid (fun v W h => hVal.out v TL W h (by omega))
    have cT2 := Lib.hid (fun v W h => rrates_any v TL W h (by omega))
    have cV1 := Lib.hid (fun v W h => hVal.out v VL W h (by omega))
    have cV2 := Lib.hid (fun v W h => rrates_any v VL W h (by omega))
    have cS1 := Lib.hid (fun v W h => hVal.out v SL W h (by omega))
    have cS2 := Lib.hid (fun v W h => rrates_any v SL W h (by omega))
    have t1 : (ratesV TL == ratesV TL) = true := by simp
    have t2 : (ratesV VL == ratesV VL) = true := by simp
    have t3 : (ratesV SL == ratesV SL) = true := by simp
    generalize ratesV TL = rT at *
    generalize ratesV VL = rV at *
    generalize ratesV SL = rS at *
    go_wp2_with fail
    refine (cT1.out _ _ T9.out.at).mono ?_; rintro e Y1 ⟨rfl, hB⟩
    have Z1 := Lib.hid (trans_at B11.out hB)
    have T1 := Lib.hid (T9.out.keep hB)
    have V1 := Lib.hid (V9.out.keep hB)
    have S1 := Lib.hid (S9.out.keep hB)
    clear hB T9 V9 S9 B11
    go_wp2_with fail
    refine (cT2.out _ _ T1.out.at).mono ?_; rintro e Y2 ⟨rfl, hB⟩
    have Z2 := Lib.hid (trans_at Z1.out hB)
    have V2 := Lib.hid (V1.out.keep hB)
    have S2 := Lib.hid (S1.out.keep hB)
    clear hB T1 V1 S1 Z1
    go_wp2_with fail
    refine (cV1.out _ _ V2.out.at).mono ?_; rintro e Y3 ⟨rfl, hB⟩
    have Z3 := Lib.hid (trans_at Z2.out hB)
    have V3 := Lib.hid (V2.out.keep hB)
    have S3 := Lib.hid (S2.out.keep hB)
    clear hB V2 S2 Z2
    go_wp2_with fail
    refine (cV2.out _ _ V3.out.at).mono ?_; rintro e Y4 ⟨rfl, hB⟩
    have Z4 := Lib.hid (trans_at Z3.out hB)
    have S4 := Lib.hid (S3.out.keep hB)
    clear hB V3 S3 Z3
    go_wp2_with fail
    refine (cS1.out _ _ S4.out.at).mono ?_; rintro e Y5 ⟨rfl, hB⟩
    have Z5 := Lib.hid (trans_at Z4.out hB)
    have S5 := Lib.hid (S4.out.keep hB)
    clear hB S4 Z4
    go_wp2_with fail
    refine (cS2.out _ _ S5.out.at).mono ?_; rintro e Y6 ⟨rfl, hB⟩
    have Z6 := Lib.hid (trans_at Z5.out hB)
    clear hB S5 Z5
    go_wp2_with fail
    refine (hA.out _).mono ?_; rintro e Y7 ⟨rfl, hB⟩
    have hfin := Lib.hid (show BoolBe true w (.returned (.bool true)) Y7 from ⟨rfl, trans_at Z6.out hB⟩)
    clear hB hA Z6
    go_wp2_with fail
    go_ret
    exact hfin.out
end Go.Proofs.Ytcdfedkcefhdiaa.Exc
