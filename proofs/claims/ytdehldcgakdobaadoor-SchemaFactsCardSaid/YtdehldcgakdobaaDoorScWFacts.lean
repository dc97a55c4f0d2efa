/- SchemaFacts' walk. -/
import Derived.Test.YtdehldcgakdobaaDoorScEnd
import Derived.Test.YtdehldcgakdobaaDoorRowApp
namespace Go.Proofs.YtdehldcgakdobaaDoor.Sc
open Go.RowKit Go.Lib Go.Proofs.YtdehldcgakdobaaDoor.Bas Go.Proofs.YtdehldcgakdobaaDoor.Cal Go.Proofs.YtdehldcgakdobaaDoor.Lx Go.Proofs.YtdehldcgakdobaaDoor.Dk
set_option linter.unusedVariables false

theorem held2 {W5 wk w' : World} {b5 b0 : Nat} {v5 v0 : Value} (h5 : OAt W5 b5 v5) (h0 : OAt W5 b0 v0) (h : wk.cell? ⟨b5, 0, none⟩ = some v5 ∧ wk.cell? ⟨b0, 0, none⟩ = some v0 ∧ Below W5.heap.size W5 wk) (hB : Below wk.heap.size wk w') :
    w'.cell? ⟨b5, 0, none⟩ = some v5 ∧ w'.cell? ⟨b0, 0, none⟩ = some v0 ∧ Below W5.heap.size W5 w' := by
  have hz := trans_b h.2.2 hB
  exact ⟨(h5.keep hz).2, (h0.keep hz).2, hz⟩
theorem held1 {W5 wk w' : World} {b5 : Nat} {v5 : Value} (h5 : OAt W5 b5 v5) (h : wk.cell? ⟨b5, 0, none⟩ = some v5 ∧ Below W5.heap.size W5 wk) (hB : Below wk.heap.size wk w') :
    w'.cell? ⟨b5, 0, none⟩ = some v5 ∧ Below W5.heap.size W5 w' := by
  have hz := trans_b h.2 hB
  exact ⟨(h5.keep hz).2, hz⟩
theorem OAt.drewN {W : World} {b : Nat} {u : Value} (h : OAt W b u) (n : Nat) : OAt (W.drewN n) b u := h
theorem factsB_len (L : List At) (f : List Int) (h : f.length ≠ L.length) : factsB L f = false := decide_eq_false (fun hh => h hh.2.1)
theorem IntsAt.take {w : World} {p : Option Addr} {n c : Nat} {l : List Int} (h : IntsAt w (.slice p n c) l) (k : Nat) (hk : k ≤ n) : IntsAt w (.slice p k c) (l.take k) := by
  obtain ⟨p', c', hv, hp⟩ := h
  simp only [Value.slice.injEq] at hv
  obtain ⟨rfl, rfl, rfl⟩ := hv
  have hl : (l.take k).length = k := by rw [List.length_take]; omega
  refine ⟨p, c, by rw [hl], fun h0 => ?_⟩
  rw [hl] at h0 ⊢
  obtain ⟨b, off, e, hc⟩ := hp (by omega)
  refine ⟨b, off, e, fun j hj => ?_⟩
  have := hc j (by omega)
  rw [List.getD_eq_getElem?_getD, List.getElem?_take, if_pos hj, ← List.getD_eq_getElem?_getD]
  exact this
set_option maxRecDepth 8000 in
set_option maxHeartbeats 32000000 in
theorem facts_walk (u : Value) (L : List At) (vf : Value) (f : List Int) (k : Int) (vd : Value) (l : List Int) (a n : Int) (w : World) (hE : EnvS w)
    (hA : AttsAt w u L) (hl : L.length ≤ 9223372036854775807) (hw : ∀ x ∈ L, AtWf x) (hI : IntsAt w vf f) (hlf : f.length ≤ 9223372036854775807) (hwf : ∀ x ∈ f, (Lit.int .i64 x).wf = true)
    (hk0 : (Lit.int .i64 k).wf = true) (hD : IntsAt w vd l) (hld : l.length ≤ 9223372036854775807) (hwd0 : ∀ x ∈ l, (Lit.int .i64 x).wf = true)
    (ha0 : (Lit.int .i64 a).wf = true) (hn0 : (Lit.int .i64 n).wf = true) :
    Calls Tryd.prog 4 #[.agg #[u], vf, .int .i64 k, vd, .int .i64 a, .int .i64 n] w (BoolBe true w) := by
  have hk := Go.bounds_i64 hk0
  have ha := Go.bounds_i64 ha0
  have hn := Go.bounds_i64 hn0
  have hwd : ∀ x ∈ l, -9223372036854775808 ≤ x ∧ x ≤ 9223372036854775807 := fun x hx => Go.bounds_i64 (hwd0 x hx)
  have B0 := Lib.hid (alloc_at w (.cells #[u] 24))
  have A0 := Lib.hid (hA.below B0.out)
  have O0 := Lib.hid (OAt.new w u 24)
  have I0 := Lib.hid (hI.below B0.out)
  have E0 := Lib.hid (hE.keep B0.out)
  have cNew := Lib.hid (fun W (hb : Below w.heap.size w W) => new_any vd l W (hD.below hb) hld hwd)
  have cK := Lib.hid (fun w => made_any k w hk.1 hk.2)
  have hkb := wi_bd k 6 (by omega)
  have hmo := Lib.hid (made_ok (wi k 6) (by omega))
  obtain ⟨p, c, rfl, _, _⟩ := hA
  obtain ⟨pf, cf, rfl, _⟩ := hI
  obtain ⟨pd, cd, rfl, _⟩ := hD
  have c1 := Lib.hid (fun W hA hI => pvalid_any (.slice p L.length c) W L (.slice pf f.length cf) f hA hl hw hI hlf)
  have c2 := Lib.hid (fun W hA hI => rfacts_any (.slice p L.length c) W L (.slice pf f.length cf) f hA hl hw hI hlf)
  generalize madeS (wi k 6) = M at *
  generalize wi k 6 = kx at *
  obtain ⟨nL, hnL⟩ : ∃ n, L.length = n := ⟨_, rfl⟩
  obtain ⟨nf, hnf⟩ : ∃ n, f.length = n := ⟨_, rfl⟩
  rw [hnL] at A0 O0 B0 E0 I0 c1 c2 hl ⊢
  rw [hnf] at I0 c1 c2 hlf ⊢
  generalize factsB L f = R at *
  clear hE hw hwd hld hk hkb hnL hnf hwf hk0 hwd0 ha0 hn0
  obtain ⟨b0, hb0⟩ : ∃ b, w.heap.size = b := ⟨_, rfl⟩
  rw [hb0] at O0
  by_cases hbig : 20 < nL ∨ 50 < nf
  · by_cases h20 : 20 < nL
    · have u1 : decide ((20 : Int) < (nL : Int)) = true := by simp; omega
      have u3 : decide (20 < nL) = true := by simp; omega
      clear hbig
      go_enter Tryd.func4, Tryd.ntmps4
      go_upto_region 2 with fail
      generalize w.alloc (.cells #[.slice p nL c] 24) = W0 at *
      go_wp2_with fail
      refine (awake_of _ E0.out).mono ?_; rintro e W9 ⟨rfl, hB9⟩
      have B9 := Lib.hid (trans_b B0.out hB9)
      clear hB9
      go_wp2_with fail
      go_ret
      exact ⟨rfl, B9.out⟩
    · have h50 : 50 < nf := by omega
      have u1 : decide ((20 : Int) < (nL : Int)) = false := by simp; omega
      have u3 : decide (20 < nL) = false := by simp; omega
      have u2 : decide ((50 : Int) < (nf : Int)) = true := by simp; omega
      have u4 : decide (50 < nf) = true := by simp; omega
      clear hbig
      go_enter Tryd.func4, Tryd.ntmps4
      go_upto_region 2 with fail
      generalize w.alloc (.cells #[.slice p nL c] 24) = W0 at *
      go_wp2_with fail
      refine (awake_of _ E0.out).mono ?_; rintro e W9 ⟨rfl, hB9⟩
      have B9 := Lib.hid (trans_b B0.out hB9)
      clear hB9
      go_wp2_with fail
      go_ret
      exact ⟨rfl, B9.out⟩
  · have u1 : decide ((20 : Int) < (nL : Int)) = false := by simp; omega
    have u2 : decide ((50 : Int) < (nf : Int)) = false := by simp; omega
    have u3 : decide (20 < nL) = false := by simp; omega
    have u4 : decide (50 < nf) = false := by simp; omega
    go_enter Tryd.func4, Tryd.ntmps4
    go_upto_region 3 with fail
    generalize w.alloc (.cells #[.slice p nL c] 24) = W0 at *
    clear u1 u2 u3 u4 hbig hb0
    go_wp2_with fail
    refine (cK.out W0).mono ?_; rintro e W3 ⟨us, rfl, hAs, hB3⟩
    have B3 := Lib.hid (trans_b B0.out hB3)
    have E3 := Lib.hid (E0.out.keep hB3)
    have A3 := Lib.hid (A0.out.below hB3)
    have I3 := Lib.hid (I0.out.below hB3)
    have P3 := Lib.hid (O0.out.keep hB3)
    have As := Lib.hid hAs
    obtain ⟨ps, cs, rfl, _, _⟩ := hAs
    clear hB3 E0 B0 cK A0 I0 O0
    go_upto_region 4 with fail
    have O4 := Lib.hid (OAt.new W3 (.slice ps M.length cs) 24)
    have hal := alloc_at W3 (.cells #[.slice ps M.length cs] 24)
    have A4 := Lib.hid (As.out.below hal)
    have B4 := Lib.hid (trans_b B3.out hal)
    have E4 := Lib.hid (E3.out.keep hal)
    have S4 := Lib.hid (A3.out.below hal)
    have I4 := Lib.hid (I3.out.below hal)
    have P4 := Lib.hid (P3.out.keep hal)
    obtain ⟨b5, hb5⟩ : ∃ b, W3.heap.size = b := ⟨_, rfl⟩
    rw [hb5] at O4 ⊢
    clear hb5 hal As E3 B3 A3 I3 P3
    generalize W3.alloc (.cells #[.slice ps M.length cs] 24) = W4 at *
    have x4 := O4.out.2
    go_cut [14] (fun x14 wx => ∃ F : List Int, F.length = M.length ∧ Hid (∀ j, j < M.length → InD (at' M j) (F.getD j 0)) ∧ Hid (Below W4.heap.size W4 wx) ∧ Hid (Row 3 .i64 W4.heap.size wx x14 F))
    case first =>
      go_region_with (first | (refine (cNew.out _ (below_drewN B4.out 1)).mono ?_; rintro e w' ⟨d, rfl, hDx, hBx⟩; have x5 := (OAt.keep (w := W4) O4.out (trans_b (below_drewN (Below.refl _ _) 1) hBx)).2) | (refine (dfacts_any _ _ _ l W4 _ (.slice ps M.length cs) M A4.out (trans_b (below_drewN (Below.refl _ _) 1) hBx) (hDx.ge) hmo.out.1 hmo.out.2 hDx).mono ?_; rintro e w' ⟨uF, F, rfl, hF1, hF2, hRF, hDF, hKF⟩))
      all_goals
        have hs1 := hBx.size
        have hBz := (trans_b (below_drewN (Below.refl W4.heap.size W4) 1) hBx).trans (hKF.below (B := W4.heap.size) hDx.ge hs1)
        have hRz := hRF.mono (B' := W4.heap.size) hs1
        have hBz' := Lib.hid hBz
        have hRz' := Lib.hid hRz
        have hF2' := Lib.hid hF2
        clear hBz hRz hs1 hBx hKF hDx hRF hDF hF2
        go_wp2_with fail
        go_meet
        case rel => exact ⟨F, hF1, hF2', hBz', hRz'⟩
    case rest =>
      obtain ⟨F, hF, hIn, hB5, hR5⟩ := hcut
      have hM := (schE_ok M hmo.out.1)
      have hM1 := hM.1
      have hM6 := hM.2.1
      have hFB := Lib.hid (show factsB M F = true from decide_eq_true ⟨hmo.out.1, hF, fun i hi => hIn.out i hi⟩)
      have A5 := Lib.hid (A4.out.below hB5.out)
      have O5 := Lib.hid (O4.out.keep hB5.out)
      have S5 := Lib.hid (S4.out.below hB5.out)
      have I5 := Lib.hid (I4.out.below hB5.out)
      have P5 := Lib.hid (P4.out.keep hB5.out)
      have E5 := Lib.hid (E4.out.keep hB5.out)
      have B5 := Lib.hid (trans_b B4.out hB5.out)
      have R5 := Lib.hid (hR5.out.mono (B' := 0) (Nat.zero_le _))
      have hl9 : M.length ≤ 9223372036854775807 := by omega
      have cV1 := Lib.hid (fun (W : World) (h : W.cell? ⟨b5, 0, none⟩ = some (.slice ps M.length cs) ∧ W.cell? ⟨b0, 0, none⟩ = some (.slice p nL c) ∧ Below wc.heap.size wc W) => by
        have := pvalid_any (.slice ps M.length cs) W M u14 F (A5.out.below h.2.2) hl9 hmo.out.2 (R5.out.ints.below h.2.2) (by omega)
        rw [hFB.out] at this
        exact this)
      have cV2 := Lib.hid (fun (W : World) (h : W.cell? ⟨b5, 0, none⟩ = some (.slice ps M.length cs) ∧ W.cell? ⟨b0, 0, none⟩ = some (.slice p nL c) ∧ Below wc.heap.size wc W) => c1.out W (S5.out.below h.2.2) (I5.out.below h.2.2))
      have cR2 := Lib.hid (fun (W : World) (h : W.cell? ⟨b5, 0, none⟩ = some (.slice ps M.length cs) ∧ W.cell? ⟨b0, 0, none⟩ = some (.slice p nL c) ∧ Below wc.heap.size wc W) => c2.out W (S5.out.below h.2.2) (I5.out.below h.2.2))
      have x5 := O5.out.2
      have y5 := P5.out.2
      obtain ⟨mn, hmn⟩ : ∃ n, M.length = n := ⟨_, rfl⟩
      have hmn' := Lib.hid hmn
      rw [hmn] at hF
      have hF' := Lib.hid hF
      rw [hmn] at hM1 hM6 A5 O5 x5 cV1 cV2 cR2 hl9
      clear hmn hM A4 O4 S4 I4 P4 E4 B4 hB5 hR5 hIn x4 c1 c2 cNew
      go_upto_region 5 with (fail)
      go_cut [45] (fun x45 wx => x45 = .bool false ∧ Hid (Below wc.heap.size wc wx))
      case first =>
        cases R
        all_goals
          go_region_held3 (fun w' => w'.cell? ⟨b5, 0, none⟩ = some (.slice ps mn cs) ∧ w'.cell? ⟨b0, 0, none⟩ = some (.slice p nL c) ∧ Below wc.heap.size wc w')
            (first | exact ⟨x5, y5, below_drewN (Below.refl _ _) 1⟩ | exact held2 O5.out P5.out (by assumption) hBq)
            (first
              | (go_at_call 15; (with_reducible refine (cV1.out _ (by assumption)).mono ?_); rintro e w' ⟨rfl, hBq⟩)
              | (go_at_call 15; (with_reducible refine (cV2.out _ (by assumption)).mono ?_); rintro e w' ⟨rfl, hBq⟩)
              | (go_at_call 16; (with_reducible refine (cR2.out _ (by assumption)).mono ?_); rintro e w' ⟨rfl, hBq⟩))
          rename_i hh
          have hB6 := Lib.hid hh.2.2
          clear hh
          go_wp2_with fail
          go_meet
          case rel => exact ⟨rfl, hB6⟩
      case rest =>
        obtain ⟨rfl, hB6⟩ := hcut
        have A6 := Lib.hid (A5.out.below hB6.out)
        have O6 := Lib.hid (O5.out.keep hB6.out)
        have E6 := Lib.hid (E5.out.keep hB6.out)
        have B6 := Lib.hid (trans_b B5.out hB6.out)
        have R6 := Lib.hid (R5.out.keep hB6.out)
        obtain ⟨gx, cx, rfl, _, hgx, hcx, hxc⟩ := R6.out.form (by omega)
        rw [hF]
        rw [hF] at hcx
        have hFs := Lib.hid (show (Value.slice (some ⟨gx, 0, none⟩) mn cx) = .slice (some ⟨gx, 0, none⟩) F.length cx from by rw [hF'.out])
        have hxA := Lib.hid (show ∀ j, j < F.length → (wc.alloc (.cells #[] 3)).cell? ⟨gx, j, none⟩ = some (.int .i64 (F.getD j 0)) from fun j hj => by
          rw [(alloc_at wc _).cell (p := ⟨gx, j, none⟩) hgx]; exact hxc j hj)
        have hE0 := Lib.hid (row_none wc wc.heap.size (Nat.le_refl _))
        obtain ⟨i0, hi, hz0, hz1, hz2⟩ := info_parts info_int
        have hF9 : F.length ≤ 6 := by omega
        have x6 := O6.out.2
        clear hxc hF cV1 cV2 cR2 hB6 B5 E5 A5 O5 S5 I5 P5 R5 x5 y5
        go_upto_region 8 with (at_builtin; refine app_row (w := wc.alloc (.cells #[] 3)) rfl (.tmp 46) (.tmp 47) 28 rfl wc.heap.size 3 .i64 i0 8 Tryd.underlying28 hi hz0 hz1 hz2 (by omega) _ [] rfl hE0.out gx cx F hFs.out hxA.out (by simp; omega) (by simp) ?_; intro vA wA hownA hgrowA)
        rw [List.nil_append] at hownA
        have hBA : Below wc.heap.size wc wA := ((Below.refl wc.heap.size wc).alloc (Nat.le_refl _) _).grown hgrowA (by simp) (fun g hg => by cases hg; exact Nat.le_refl _)
        obtain ⟨gy, cy, rfl, hgy1, hgy2, hcy, hyc⟩ := hownA.form (by rw [hF'.out]; omega)
        rw [hF'.out]
        obtain ⟨kw1, kw2⟩ := wi_bd a mn (by omega)
        obtain ⟨kk, hkk⟩ : ∃ kk : Nat, wi a mn = kk := ⟨(wi a mn).toNat, by omega⟩
        have cW := Lib.hid (fun W => within_any a mn W ha.1 ha.2 (by omega) (by omega))
        rw [hkk] at cW kw2
        have hkn : kk < mn := by omega
        have y0 := hyc kk (by rw [hF'.out]; exact hkn)
        have f0 := hownA.frozen kk
        have hst := hownA.store kk n
        have hstB := hBA.setCell (p := ⟨gy, kk, none⟩) hgy1 (.int .i64 n)
        have hst' := Lib.hid hst
        have hstB' := Lib.hid hstB
        clear hxA hE0 hownA hBA hgrowA hyc hgy1 hgy2 hcy kw1 hkk hst hstB x6
        generalize F.getD kk 0 = zz at *
        go_wp2_with fail
        refine (cW.out _).mono ?_; rintro e w' ⟨rfl, rfl⟩
        go_upto_region 9 with fail
        clear y0 f0 cW
        generalize wA.setCell ⟨gy, kk, none⟩ (.int .i64 n) = wB at *
        have hGl : (F.set kk n).length = mn := by rw [List.length_set]; exact hF'.out
        have hYv : Value.slice (some ⟨gy, 0, none⟩) F.length cy = .slice (some ⟨gy, 0, none⟩) mn cy := by rw [hF'.out]
        rw [hYv] at hst'
        clear hYv
        generalize F.set kk n = G at *
        have A7 := Lib.hid (A6.out.below hstB'.out)
        have O7 := Lib.hid (O6.out.keep hstB'.out)
        have E7 := Lib.hid (E6.out.keep hstB'.out)
        have B7 := Lib.hid (trans_b B6.out hstB'.out)
        have R7 := Lib.hid (R6.out.keep hstB'.out)
        have hgx7 : gx < wB.heap.size := Nat.lt_of_lt_of_le hgx hstB'.out.size
        have hxB := Lib.hid (show ∀ j, j < F.length → (wB.alloc (.cells #[] 3)).cell? ⟨gx, j, none⟩ = some (.int .i64 (F.getD j 0)) from fun j hj => by
          obtain ⟨g', c', e', _, _, _, h'⟩ := R7.out.form (by rw [hF'.out]; omega)
          cases e'
          rw [(alloc_at wB _).cell (p := ⟨gx, j, none⟩) hgx7]; exact h' j hj)
        have hE7 := Lib.hid (row_none wB wB.heap.size (Nat.le_refl _))
        clear A6 O6 E6 B6 R6 hstB'
        go_upto_region 10 with (first
          | (at_builtin; refine app_row (w := wB.alloc (.cells #[] 3)) rfl (.tmp 56) (.tmp 57) 28 rfl wB.heap.size 3 .i64 i0 8 Tryd.underlying28 hi hz0 hz1 hz2 (by omega) _ [] rfl hE7.out gx cx F hFs.out hxB.out (by simp; omega) (by simp) ?_; intro vC wC hownC hgrowC)
          | (at_builtin; refine wpList_append_one rfl (.tmp 58) (.tmp 59) 28 rfl wB.heap.size 3 .i64 i0 8 Tryd.underlying28 hi hz0 hz1 hz2 (by omega) vC _ rfl hownC 0 rfl (by simp; omega) (by have := hgrowC.size; simp at this; omega) ?_; intro vD wD hownD hgrowD))
        rw [List.nil_append] at hownD
        have hBC : Below wB.heap.size wB wC := ((Below.refl wB.heap.size wB).alloc (Nat.le_refl _) _).grown hgrowC (by simp) (fun g hg => by cases hg; exact Nat.le_refl _)
        have hCb := hownC.block
        have hszC := hBC.size
        have hBD : Below wB.heap.size wB wD := hBC.grown hgrowD (by omega) (fun g hg => (hCb g hg).1)
        have A8 := Lib.hid (A7.out.below hBD)
        have O8 := Lib.hid (O7.out.keep hBD)
        have E8 := Lib.hid (E7.out.keep hBD)
        have B8 := Lib.hid (trans_b B7.out hBD)
        have R8 := Lib.hid (R7.out.keep hBD)
        have Y8 := Lib.hid (hst'.out.keep hBD)
        have Z8 := Lib.hid hownD
        clear hownC hgrowC hownD hgrowD hBC hCb hszC hBD A7 O7 E7 B7 R7 hst' hxB hE7
        have hX8 := Lib.hid (show IntsAt wD (.slice (some ⟨gx, 0, none⟩) mn cx) F from by have := R8.out.ints; rw [hF'.out] at this; exact this)
        have hY8 := Lib.hid (show IntsAt wD (.slice (some ⟨gy, 0, none⟩) mn cy) G from by have := Y8.out.ints; exact this)
        have hT8 := Lib.hid (IntsAt.take hX8.out (mn - 1) (by omega))
        have hl9' : M.length ≤ 9223372036854775807 := by rw [hmn'.out]; exact hl9
        have cY := Lib.hid (fun (W : World) (h : W.cell? ⟨b5, 0, none⟩ = some (.slice ps mn cs) ∧ Below wD.heap.size wD W) => pvalid_any (.slice ps mn cs) W M (.slice (some ⟨gy, 0, none⟩) mn cy) G (A8.out.below h.2) hl9' hmo.out.2 (hY8.out.below h.2) (by rw [hGl]; omega))
        have cYR := Lib.hid (fun (W : World) (h : W.cell? ⟨b5, 0, none⟩ = some (.slice ps mn cs) ∧ Below wD.heap.size wD W) => rfacts_any (.slice ps mn cs) W M (.slice (some ⟨gy, 0, none⟩) mn cy) G (A8.out.below h.2) hl9' hmo.out.2 (hY8.out.below h.2) (by rw [hGl]; omega))
        have cZ := Lib.hid (fun (W : World) (h : W.cell? ⟨b5, 0, none⟩ = some (.slice ps mn cs) ∧ Below wD.heap.size wD W) => by
          have := pvalid_any (.slice ps mn cs) W M vD (F ++ [0]) (A8.out.below h.2) hl9' hmo.out.2 (Z8.out.ints.below h.2) (by rw [List.length_append, hF'.out]; simp; omega)
          rw [factsB_len M (F ++ [0]) (by rw [List.length_append, hF'.out, hmn'.out]; simp)] at this
          exact this)
        have cT := Lib.hid (fun (W : World) (h : W.cell? ⟨b5, 0, none⟩ = some (.slice ps mn cs) ∧ Below wD.heap.size wD W) => by
          have := pvalid_any (.slice ps mn cs) W M (.slice (some ⟨gx, 0, none⟩) (mn - 1) cx) (F.take (mn - 1)) (A8.out.below h.2) hl9' hmo.out.2 (hT8.out.below h.2) (by rw [List.length_take, hF'.out]; omega)
          rw [factsB_len M (F.take (mn - 1)) (by rw [List.length_take, hF'.out, hmn'.out]; omega)] at this
          exact this)
        have cA := Lib.hid (fun (W : World) (h : W.cell? ⟨b5, 0, none⟩ = some (.slice ps mn cs) ∧ Below wD.heap.size wD W) => awake_of W (E8.out.keep h.2))
        have x8 := O8.out.2
        have hsub : IntKind.i64.wrap ((mn : Int) - 1) = ((mn - 1 : Nat) : Int) := by rw [IntWalk.i64_in _ (by omega)]; omega
        have hsub2 : mn - 1 ≤ cx := by omega
        have hgg := Lib.hid (show ∀ b, factsB M G = b → factsB M G = b from fun _ h => h)
        generalize factsB M G = gb at *
        clear A8 E8 R8 Y8 Z8 hX8 hY8 hT8 hFs hGl hn ha
        cases gb
        all_goals
          go_region_held3 (fun w' => w'.cell? ⟨b5, 0, none⟩ = some (.slice ps mn cs) ∧ Below wD.heap.size wD w')
            (first | exact ⟨x8, below_drewN (Below.refl _ _) 1⟩ | exact held1 O8.out (by assumption) hBq)
            (first
              | (go_at_call 15; (with_reducible refine (cY.out _ (by assumption)).mono ?_); rintro e w' ⟨rfl, hBq⟩)
              | (go_at_call 15; (with_reducible refine (cZ.out _ (by assumption)).mono ?_); rintro e w' ⟨rfl, hBq⟩)
              | (go_at_call 15; (with_reducible refine (cT.out _ (by assumption)).mono ?_); rintro e w' ⟨rfl, hBq⟩)
              | (go_at_call 16; (with_reducible refine (cYR.out _ (by assumption)).mono ?_); rintro e w' ⟨rfl, hBq⟩)
              | (go_at_call 6; (with_reducible refine (cA.out _ (by assumption)).mono ?_); rintro e w' ⟨rfl, hBq⟩))
          rename_i hh
          have hB9 := Lib.hid (trans_b B8.out hh.2)
          clear hh
          go_wp2_with fail
          go_ret
          exact ⟨rfl, hB9.out⟩
end Go.Proofs.YtdehldcgakdobaaDoor.Sc
