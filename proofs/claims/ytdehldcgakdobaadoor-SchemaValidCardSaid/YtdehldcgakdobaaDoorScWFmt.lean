/- SchemaFormat's walk, given the program's Format and the sanity check. -/
import Derived.Test.YtdehldcgakdobaaDoorScFmt2
import Derived.Test.YtdehldcgakdobaaDoorScCon
import Derived.Test.YtdehldcgakdobaaDoorScDeck
namespace Go.Proofs.YtdehldcgakdobaaDoor.Sc
open Go.RowKit Go.Lib Go.Proofs.YtdehldcgakdobaaDoor.Bas Go.Proofs.YtdehldcgakdobaaDoor.Cal Go.Proofs.YtdehldcgakdobaaDoor.Lx Go.Proofs.YtdehldcgakdobaaDoor.Dk
set_option linter.unusedVariables false

set_option maxRecDepth 8000 in
set_option maxHeartbeats 16000000 in
theorem formatW {E : World → Prop} (hEv : Ev E) (hFmt : FmtOf E 17) (hAw : AwakeOf E 6)
    (u : Value) (L : List At) (vf : Value) (f : List Int) (k : Int) (vd : Value) (l : List Int) (a n : Int) (w : World) (hE : E w)
    (hA : AttsAt w u L) (hl : L.length ≤ 9223372036854775807) (hw : ∀ x ∈ L, AtWf x) (hI : IntsAt w vf f) (hlf : f.length ≤ 9223372036854775807)
    (hk : -9223372036854775808 ≤ k ∧ k ≤ 9223372036854775807) (hD : IntsAt w vd l) (hld : l.length ≤ 9223372036854775807) (hwd : ∀ x ∈ l, -9223372036854775808 ≤ x ∧ x ≤ 9223372036854775807)
    (ha : -9223372036854775808 ≤ a ∧ a ≤ 9223372036854775807) (hn : -9223372036854775808 ≤ n ∧ n ≤ 9223372036854775807) :
    Calls Tryd.prog 5 #[.agg #[u], vf, .int .i64 k, vd, .int .i64 a, .int .i64 n] w (BoolBe true w) := by
  have B0 := Lib.hid (alloc_at w (.cells #[u] 24))
  have A0 := Lib.hid (hA.below B0.out)
  have O0 := Lib.hid (OAt.new w u 24)
  have I0 := Lib.hid (hI.below B0.out)
  have E0 := Lib.hid (hEv.keep hE B0.out)
  have cNew := Lib.hid (fun W (hb : Below w.heap.size w W) => new_any vd l W (hD.below hb) hld hwd)
  have hev := Lib.hid hEv
  have cA := Lib.hid hAw
  have cFm := Lib.hid hFmt
  have cK := Lib.hid (fun w => made_any k w hk.1 hk.2)
  have hkb := wi_bd k 6 (by omega)
  have hmo := Lib.hid (made_ok (wi k 6) (by omega))
  obtain ⟨p, c, rfl, _, _⟩ := hA
  obtain ⟨pf, cf, rfl, _⟩ := hI
  obtain ⟨pd, cd, rfl, _⟩ := hD
  have c1 := Lib.hid (fun W hE hA hI => hFmt (.slice p L.length c) W L (.slice pf f.length cf) f hE hA hl hw hI hlf)
  have c2 := Lib.hid (fun W hA hI => rfmt_any (.slice p L.length c) W L (.slice pf f.length cf) f hA hl hw hI hlf)
  generalize madeS (wi k 6) = M at *
  generalize wi k 6 = kx at *
  obtain ⟨nL, hnL⟩ : ∃ n, L.length = n := ⟨_, rfl⟩
  obtain ⟨nf, hnf⟩ : ∃ n, f.length = n := ⟨_, rfl⟩
  rw [hnL] at A0 O0 B0 E0 I0 c1 c2 hl ⊢
  rw [hnf] at I0 c1 c2 hlf ⊢
  generalize fmtF L f = R at *
  clear hEv hFmt hAw hE hw hwd hld hk hkb hnL hnf
  obtain ⟨b0, hb0⟩ : ∃ b, w.heap.size = b := ⟨_, rfl⟩
  rw [hb0] at O0
  by_cases hbig : 20 < nL ∨ 50 < nf
  · by_cases h20 : 20 < nL
    · have u1 : decide ((20 : Int) < (nL : Int)) = true := by simp; omega
      have u3 : decide (20 < nL) = true := by simp; omega
      clear hbig
      go_enter Tryd.func5, Tryd.ntmps5
      go_upto_region 2 with fail
      generalize w.alloc (.cells #[.slice p nL c] 24) = W0 at *
      go_wp2_with fail
      refine (cA.out _ E0.out).mono ?_; rintro e W9 ⟨rfl, hB9⟩
      have B9 := Lib.hid (trans_b B0.out hB9)
      clear hB9
      go_wp2_with fail
      go_ret
      exact ⟨rfl, B9.out⟩
    · have h50 : 50 < nf := by omega
      have u1 : decide ((20 : Int) < (nL : Int)) = false := by simp; omega
      have u3 : decide (20 < nL) = false := by simp; omega
      have u2 : decide ((50 : Int) < (nf : Int)) = true := by simp; omega
      have u4 : decide (50 < nf) = true := by simp; omega
      clear hbig
      go_enter Tryd.func5, Tryd.ntmps5
      go_upto_region 2 with fail
      generalize w.alloc (.cells #[.slice p nL c] 24) = W0 at *
      go_wp2_with fail
      refine (cA.out _ E0.out).mono ?_; rintro e W9 ⟨rfl, hB9⟩
      have B9 := Lib.hid (trans_b B0.out hB9)
      clear hB9
      go_wp2_with fail
      go_ret
      exact ⟨rfl, B9.out⟩
  · have u1 : decide ((20 : Int) < (nL : Int)) = false := by simp; omega
    have u2 : decide ((50 : Int) < (nf : Int)) = false := by simp; omega
    have u3 : decide (20 < nL) = false := by simp; omega
    have u4 : decide (50 < nf) = false := by simp; omega
    go_enter Tryd.func5, Tryd.ntmps5
    go_upto_region 3 with fail
    generalize w.alloc (.cells #[.slice p nL c] 24) = W0 at *
    have x0 := O0.out.2
    clear u1 u2 u3 u4 hbig
    go_wp2_with fail
    refine (c1.out W0 E0.out A0.out I0.out).mono ?_; rintro e W1 ⟨rfl, hB1⟩
    have B1 := Lib.hid (trans_b B0.out hB1)
    have E1 := Lib.hid (hev.out.keep E0.out hB1)
    have A1 := Lib.hid (A0.out.below hB1)
    have I1 := Lib.hid (I0.out.below hB1)
    have O1 := O0.out.keep hB1
    have x1 := O1.2
    clear hB1 O1 x0 E0 A0 I0 O0 B0
    go_wp2_with fail
    refine (c2.out W1 A1.out I1.out).mono ?_; rintro e W2 ⟨rfl, hB2⟩
    have B2 := Lib.hid (trans_b B1.out hB2)
    have E2 := Lib.hid (hev.out.keep E1.out hB2)
    clear hB2 x1 E1 A1 I1 B1 c1 c2
    go_wp2_with fail
    refine (cK.out W2).mono ?_; rintro e W3 ⟨us, rfl, hAs, hB3⟩
    have B3 := Lib.hid (trans_b B2.out hB3)
    have E3 := Lib.hid (hev.out.keep E2.out hB3)
    have As := Lib.hid hAs
    obtain ⟨ps, cs, rfl, _, _⟩ := hAs
    clear hB3 E2 B2 cK
    go_upto_region 6 with fail
    have O4 := Lib.hid (OAt.new W3 (.slice ps M.length cs) 24)
    have hal := alloc_at W3 (.cells #[.slice ps M.length cs] 24)
    have A4 := Lib.hid (As.out.below hal)
    have B4 := Lib.hid (trans_b B3.out hal)
    have E4 := Lib.hid (hev.out.keep E3.out hal)
    obtain ⟨b5, hb5⟩ : ∃ b, W3.heap.size = b := ⟨_, rfl⟩
    rw [hb5] at O4 ⊢
    clear hb5 hal As E3 B3
    generalize W3.alloc (.cells #[.slice ps M.length cs] 24) = W4 at *
    have x4 := O4.out.2
    have hpost := Lib.hid (fun (w1 w2 : World) (hb : Below W4.heap.size W4 w1) (e : Ending) (h : New (.slice pd l.length cd) l w1 e w2) => h)
    go_cut [18] (fun x18 wx => ∃ F : List Int, F.length = M.length ∧ Hid (Below W4.heap.size W4 wx) ∧ Hid (Row 3 .i64 W4.heap.size wx x18 F))
    case first =>
      go_region_with (first | (refine (cNew.out _ (below_drewN B4.out 1)).mono ?_; rintro e w' ⟨d, rfl, hDx, hBx⟩; have x5 := (OAt.keep (w := W4) O4.out (trans_b (below_drewN (Below.refl _ _) 1) hBx)).2) | (refine (dfacts_any _ _ _ l W4 _ (.slice ps M.length cs) M A4.out (trans_b (below_drewN (Below.refl _ _) 1) hBx) (hDx.ge) hmo.out.1 hmo.out.2 hDx).mono ?_; rintro e w' ⟨uF, F, rfl, hF1, hF2, hRF, hDF, hKF⟩))
      all_goals
        have hs1 := hBx.size
        have hBz := (trans_b (below_drewN (Below.refl W4.heap.size W4) 1) hBx).trans (hKF.below (B := W4.heap.size) hDx.ge hs1)
        have hRz := hRF.mono (B' := W4.heap.size) hs1
        have hBz' := Lib.hid hBz
        have hRz' := Lib.hid hRz
        clear hBz hRz hs1 hBx hKF hDx hRF hDF
        go_wp2_with fail
        go_meet
        case rel => exact ⟨F, hF1, hBz', hRz'⟩
    case rest =>
      obtain ⟨F, hF, hB5, hR5⟩ := hcut
      have hM := (schE_ok M hmo.out.1)
      have hM1 := hM.1
      have hM6 := hM.2.1
      obtain ⟨mn, hmn⟩ : ∃ n, M.length = n := ⟨_, rfl⟩
      have hmn' := Lib.hid hmn
      rw [hmn] at hF hM1 hM6 A4 O4 x4
      clear hmn hM hpost
      obtain ⟨pq, cq, rfl, hgg⟩ := hR5.out.shape
      obtain ⟨gq, rfl, hgq, hgs, hcc⟩ := hgg (by omega)
      have hF' := Lib.hid hF
      rw [hF] at hR5 hcc ⊢
      clear hF
      obtain ⟨kw1, kw2⟩ := wi_bd a mn (by omega)
      obtain ⟨kk, hkk⟩ : ∃ kk : Nat, wi a mn = kk := ⟨(wi a mn).toNat, by omega⟩
      have cW := Lib.hid (fun W => within_any a mn W ha.1 ha.2 (by omega) (by omega))
      rw [hkk] at cW kw2
      have hkn : kk < mn := by omega
      clear kw1 hkk
      have y0 := hcc kk hkn
      have f0 := hR5.out.frozen kk
      have hst := Lib.hid (hR5.out.store kk n)
      have hstB := Lib.hid (hB5.out.setCell (p := ⟨gq, kk, none⟩) hgq (.int .i64 n))
      clear hcc hgg hn
      generalize F.getD kk 0 = zz at *
      go_upto_if 53 with (fail)
      go_cut [] (fun wx => ∃ G : List Int, G.length = mn ∧ Hid (Below W4.heap.size W4 wx) ∧ Hid (Row 3 .i64 W4.heap.size wx (.slice (some ⟨gq, 0, none⟩) mn cq) G))
      case first =>
        by_cases h3 : n.tmod 3 = 0
        · go_wp2_with fail
          refine (cW.out _).mono ?_; rintro e w' ⟨rfl, rfl⟩
          go_wp2_with fail
          go_meet
          case rel => exact ⟨F.set kk n, by rw [List.length_set]; exact hF'.out, hstB, hst⟩
        · have t1 : (n.tmod 3 == 0) = false := by simpa using h3
          go_wp2_with fail
          go_meet
          case rel => exact ⟨F, hF'.out, hB5, hR5⟩
      case rest =>
        obtain ⟨G, hG, hB6, hR6⟩ := hcut
        have A6 := Lib.hid (A4.out.below hB6.out)
        have O6 := Lib.hid (O4.out.keep hB6.out)
        have E6 := Lib.hid (hev.out.keep E4.out hB6.out)
        have B6 := Lib.hid (trans_b B4.out hB6.out)
        have x6 := O6.out.2
        have hml : M.length ≤ 9223372036854775807 := by rw [hmn'.out]; omega
        have hgl : G.length ≤ 9223372036854775807 := by rw [hG]; omega
        have c3 := Lib.hid (cFm.out (.slice ps mn cs) wc M (.slice (some ⟨gq, 0, none⟩) mn cq) G E6.out A6.out hml hmo.out.2 hR6.out.ints hgl)
        have c4 := Lib.hid (fun w hb => rfmt_any (.slice ps mn cs) w M (.slice (some ⟨gq, 0, none⟩) mn cq) G (A6.out.below hb) hml hmo.out.2 (hR6.out.ints.below hb) hgl)
        generalize fmtF M G = R2 at *
        clear x4 y0 f0 A4 O4 E4 B4 hB5 hR5 hst hstB hG hml hgl cW
        go_wp2_with fail
        refine c3.out.mono ?_; rintro e W7 ⟨rfl, hB7⟩
        have B7 := Lib.hid (trans_b B6.out hB7)
        have E7 := Lib.hid (hev.out.keep E6.out hB7)
        have x7 := (O6.out.keep hB7).2
        have c5 := Lib.hid (c4.out W7 hB7)
        clear hB7 c3 c4 x6 B6 E6
        go_wp2_with fail
        refine c5.out.mono ?_; rintro e W8 ⟨rfl, hB8⟩
        have B8 := Lib.hid (trans_b B7.out hB8)
        have E8 := Lib.hid (hev.out.keep E7.out hB8)
        clear hB8 c5 x7 B7 E7
        go_wp2_with fail
        refine (cA.out _ E8.out).mono ?_; rintro e W9 ⟨rfl, hB9⟩
        have B9 := Lib.hid (trans_b B8.out hB9)
        clear hB9
        go_wp2_with fail
        go_ret
        exact ⟨rfl, B9.out⟩
end Go.Proofs.YtdehldcgakdobaaDoor.Sc
