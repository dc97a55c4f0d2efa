/- The walk of SplitCheck. -/
import Derived.Test.YtnjghcncibogeaaSplChk
namespace Go.Proofs.Ytnjghcncibogeaa.Spl
open Go.RowKit Go.Lib Go.Proofs.Ytnjghcncibogeaa.Bas Go.Proofs.Ytnjghcncibogeaa.Dk
set_option linter.unusedVariables false

set_option maxRecDepth 100000 in
set_option maxHeartbeats 4000000 in
theorem splitCheck (a : Int) (v : Value) (l : List Int) (fr tt : Int) (vr : Value) (lr : List Int) (w : World) (ha : (Lit.int .i64 a).wf = true) (h : IntsAt w v l) (hl : l.length ≤ 9223372036854775807) (hw : ∀ x ∈ l, (Lit.int .i64 x).wf = true)
    (hf : (Lit.int .i64 fr).wf = true) (ht : (Lit.int .i64 tt).wf = true) (hd : IntsAt w vr lr) (hld : lr.length ≤ 9223372036854775807) (hwd : ∀ x ∈ lr, (Lit.int .i64 x).wf = true) (hcap : ∀ p n c, vr = .slice p n c → n ≤ c) :
    Calls Try.prog 6 #[.int .i64 a, v, .int .i64 fr, .int .i64 tt, vr] w (BoolBe true w) := by
  obtain ⟨i0, hi, hz0, hz1, hz2⟩ := info_parts info_int
  have hok := cl_ok a
  have c0 := Lib.hid (rclamp_cl a)
  generalize cl a = b at *
  have c2 := Lib.hid (new_any v l w h hl fun x hx => Go.bounds_i64 (hw x hx))
  obtain ⟨hf0, hf1⟩ := Go.bounds_i64 hf
  obtain ⟨ht0, ht1⟩ := Go.bounds_i64 ht
  have hId := Lib.hid hd
  clear h hl hw ha hf ht hd hwd
  obtain ⟨hok3, hok4⟩ := hok
  go_enter Try.func6, Try.ntmps6
  go_wp2_with fail
  refine (c0.out _).mono ?_; rintro e w' ⟨rfl, rfl⟩
  go_wp2_with fail
  refine c2.out.mono ?_; rintro e w1 ⟨d, rfl, hD, hB⟩
  have hB' := Lib.hid hB
  have c3 := Lib.hid (weights_any w.heap.size d v l w1 12 (by omega) (by omega) hD)
  have hge := hD.ge
  clear hB hD c2 c0
  go_wp2_with fail
  refine c3.out.mono ?_; rintro e w2 ⟨u, L, rfl, hL0, hL12, hLx, hLW, hR, hD2, hK⟩
  have hB2 := Lib.hid (hB'.out.trans (hK.below hge hB'.out.size))
  have hLx' : ∀ x ∈ L, x ≤ 17592186044416 := fun x hx => by have := hLx x hx; omega
  have hV := splitV_ok b L hL0 (by omega) ⟨hok3, hok4⟩ hLx' hLW
  have hsb := fun k hk => sg_bd b L hLW k hk ⟨hok3, hok4⟩
  have hPl : (sg b (parts b.natAbs L)).length = L.length := by rw [sg_length, parts_length]
  have c4 := split_any b u (ofN L) w2 hR.ints (by rw [ofN_length]; omega) (by omega) (by omega)
  have hchk := fun w3 vp lp h1 h2 h3 r hr => check_any b u (ofN L) vp lp w3 h1 h2 (by rw [ofN_length]; omega) h3 (by omega) (by omega) r hr
  rw [hV] at c4
  simp only [hV] at hchk
  generalize sg b (parts b.natAbs L) = P at *
  obtain ⟨n, hn⟩ : ∃ n, L.length = n := ⟨_, rfl⟩
  rw [hn] at hL0 hL12 hsb hPl
  have hRf := hR.shape
  rw [ofN_length, hn] at hRf
  obtain ⟨pu, cu, hu, _⟩ := hRf
  subst hu
  have c4' := Lib.hid c4
  have hchk' := Lib.hid hchk
  have hR' := Lib.hid hR
  have hPl' := Lib.hid hPl
  have hsb' := Lib.hid hsb
  have hsz2 := hB2.out.size
  clear hLx hLx' hLW hR hD2 hK c4 hB' c3 hV hchk hPl hsb hn
  go_wp2_with fail
  refine c4'.out.mono ?_; rintro e w3 ⟨u3, rfl, hP, hB3⟩
  simp only at hP
  have hU3 := Lib.hid (hR'.out.keep hB3)
  have hP3 := Lib.hid hP
  have hB3' := Lib.hid (hB2.out.trans (hB3.mono hsz2))
  obtain ⟨g2, k2, rfl, hg2a, hg2b, _⟩ := row_form hP (by rw [hPl'.out]; exact hL0)
  rw [hPl'.out] at hP3
  rw [hPl'.out]
  have c5 := Lib.hid (hchk'.out w3 _ P hU3.out.ints hP3.out.ints (by rw [hPl'.out]; omega) true (by simp))
  have hsz3 := hB3'.out.size
  clear hP hB3
  go_wp2_with fail
  refine c5.out.mono ?_; rintro e w4 ⟨rfl, hB4⟩
  have hU4 := Lib.hid (hU3.out.keep hB4)
  have hP4 := Lib.hid (hP3.out.keep hB4)
  have hB4' := Lib.hid (hB3'.out.trans (hB4.mono hsz3))
  have hsz4 := hB4'.out.size
  have hP4c : ∀ j, j < P.length → (w4.alloc (.cells #[] 3)).cell? ⟨g2, j, none⟩ = some (.int .i64 (P.getD j 0)) := fun j hj => by
    obtain ⟨g', k', e1, _, _, e2⟩ := row_form (hP4.out.al (.cells #[] 3)) (by omega)
    cases e1
    exact e2 j hj
  have hP4c' := Lib.hid hP4c
  have hE0 := Lib.hid (row_empty w4 w4.heap.size (Nat.le_refl _))
  have hP4s : Hid ((Value.slice (some ⟨g2, 0, none⟩) n k2) = .slice (some ⟨g2, 0, none⟩) P.length k2) := Lib.hid (by rw [hPl'.out])
  have hPge : 0 < P.length := by rw [hPl'.out]; exact hL0
  have hPle : P.length ≤ 12 := by rw [hPl'.out]; exact hL12
  clear hB4 c5 c4' hP4c
  go_wp2_with (first
    | (at_builtin; refine wpList_append_row_g (w := w4.alloc (.cells #[] 3)) rfl (.tmp 42) (.tmp 43) 22 rfl w4.heap.size 3 .i64 i0 8 Try.underlying22 hi hz0 hz1 hz2 (by omega) _ [] rfl hE0.out g2 k2 P hP4s.out hP4c'.out (by simp; omega) (by simp) ?_; intro vA wA hownA hgrowA)
    | (at_builtin; refine wpList_append_one_g rfl (.tmp 44) (.tmp 45) 22 rfl w4.heap.size 3 .i64 i0 8 Try.underlying22 hi hz0 hz1 hz2 (by omega) vA _ rfl hownA 0 rfl (by simp; omega) (by have := hgrowA.size; simp at this; omega) ?_; intro vB wB hownB hgrowB))
  have hBA : Below w4.heap.size w4 wA := ((Below.refl w4.heap.size w4).alloc (Nat.le_refl _) _).grown hgrowA (by simp) (fun g hg => by cases hg; exact Nat.le_refl _)
  have hBb := hownA.block
  have hszA := hBA.size
  have hBB : Below w4.heap.size w4 wB := hBA.grown hgrowB (by omega) (fun g hg => (hBb g hg).1)
  rw [List.nil_append] at hownB
  have hU5 := Lib.hid (hU4.out.keep hBB)
  have hP5 := Lib.hid (hP4.out.keep hBB)
  have c6 := Lib.hid (hchk'.out wB vB (P ++ [0]) hU5.out.ints hownB.ints (by simp; omega) false (by simp))
  have hB5' := Lib.hid (hB4'.out.trans (hBB.mono hsz4))
  have hsz5 := hB5'.out.size
  clear hownA hgrowA hownB hgrowB hBA hBb hszA hBB
  refine c6.out.mono ?_; rintro e w5 ⟨rfl, hB6⟩
  have hU6 := Lib.hid (hU5.out.keep hB6)
  have hP6 := Lib.hid (hP5.out.keep hB6)
  have hB6' := Lib.hid (hB5'.out.trans (hB6.mono hsz5))
  have hsz6 := hB6'.out.size
  have hP6c : ∀ j, j < P.length → (w5.alloc (.cells #[] 3)).cell? ⟨g2, j, none⟩ = some (.int .i64 (P.getD j 0)) := fun j hj => by
    obtain ⟨g', k', e1, _, _, e2⟩ := row_form (hP6.out.al (.cells #[] 3)) (by omega)
    cases e1
    exact e2 j hj
  have hP6c' := Lib.hid hP6c
  have hE6 := Lib.hid (row_empty w5 w5.heap.size (Nat.le_refl _))
  clear hB6 c6 hP6c hE0 hP4c'
  go_upto_region 7 with (at_builtin; refine wpList_append_row (w := w5.alloc (.cells #[] 3)) rfl (.tmp 49) (.tmp 50) 22 rfl w5.heap.size 3 .i64 i0 8 Try.underlying22 hi hz0 hz1 hz2 (by omega) _ [] rfl hE6.out g2 k2 P hP4s.out hP6c'.out (by simp; omega) (by simp) ?_; intro vQ wQ hownQ hgrowQ)
  rw [List.nil_append] at hownQ
  have hBQ : Below w5.heap.size w5 wQ := ((Below.refl w5.heap.size w5).alloc (Nat.le_refl _) _).grown hgrowQ (by simp) (fun g hg => by cases hg; exact Nat.le_refl _)
  have hU7 := Lib.hid (hU6.out.keep hBQ)
  have hB7' := Lib.hid (hB6'.out.trans (hBQ.mono hsz6))
  have hsz7 := hB7'.out.size
  have hQ := Lib.hid hownQ
  obtain ⟨gq, kq, rfl, hgq1, hgq2, hqc⟩ := row_form hownQ (by omega)
  rw [hPl'.out]
  have hqc' := Lib.hid hqc
  clear hownQ hgrowQ hBQ hqc hE6 hP6c'
  have hmx : max (n : Int) 1 = (n : Int) := by omega
  have wf := Lib.hid (fun w => within_any fr (n : Int) w (by omega) (by omega) hf0 hf1)
  have wt' := Lib.hid (fun w => within_any tt (n : Int) w (by omega) (by omega) ht0 ht1)
  have bf := wi_bd fr (n : Int) (by omega)
  have bt := wi_bd tt (n : Int) (by omega)
  obtain ⟨i, hi1⟩ : ∃ i : Nat, wi fr (n : Int) = (i : Int) := ⟨(wi fr (n : Int)).toNat, by omega⟩
  obtain ⟨k, hk1⟩ : ∃ k : Nat, wi tt (n : Int) = (k : Int) := ⟨(wi tt (n : Int)).toNat, by omega⟩
  rw [hi1] at bf wf
  rw [hk1] at bt wt'
  have hin : i < n := by omega
  have hkn : k < n := by omega
  clear bf bt hi1 hk1
  go_wp2_with fail
  refine (wf.out _).mono ?_; rintro e w' ⟨rfl, rfl⟩
  go_wp2_with fail
  refine (wt'.out _).mono ?_; rintro e w' ⟨rfl, rfl⟩
  go_upto_region 10 with fail
  have ci := hqc'.out i (by rw [hPl'.out]; exact hin)
  have ck := hqc'.out k (by rw [hPl'.out]; exact hkn)
  have fi := hQ.out.frozen i
  have fk := hQ.out.frozen k
  obtain ⟨bx1, bx2⟩ := hsb'.out i hin
  obtain ⟨by1, by2⟩ := hsb'.out k hkn
  have st := fun z1 z2 => (hQ.out.store i z1).store k z2
  have hQ2 : ∀ z1 z2, Row 3 .i64 w5.heap.size ((wQ.setCell ⟨gq, i, none⟩ (.int .i64 z1)).setCell ⟨gq, k, none⟩ (.int .i64 z2)) (.slice (some ⟨gq, 0, none⟩) n kq) ((P.set i z1).set k z2) := fun z1 z2 => by
    have := (hQ.out.store i z1).store k z2
    rw [hPl'.out] at this; exact this
  have hQ2' := Lib.hid hQ2
  obtain ⟨x, hx⟩ : ∃ x, P.getD i 0 = x := ⟨_, rfl⟩
  obtain ⟨y, hy⟩ : ∃ y, P.getD k 0 = y := ⟨_, rfl⟩
  rw [hx] at ci bx1 bx2
  rw [hy] at ck by1 by2
  have hx' := Lib.hid hx
  have hy' := Lib.hid hy
  have wx1 : IntKind.i64.wrap (x - 1) = x - 1 := wrap_i _ (by omega) (by omega)
  have wy1 : IntKind.i64.wrap (y + 1) = y + 1 := wrap_i _ (by omega) (by omega)
  have l1 : (i : Int) < (n : Int) := by omega
  have l2 : (k : Int) < (n : Int) := by omega
  clear st hQ2 hx hy
  have hU7b := Lib.hid hU7.out.block
  have hU6b := Lib.hid hU6.out.block
  go_cut [] (fun wx => Hid (Row 3 .i64 w5.heap.size wx (.slice (some ⟨gq, 0, none⟩) n kq) ((P.set i (x - 1)).set k (y + 1))) ∧ Hid (Row 3 .i64 w1.heap.size wx (.slice pu n cu) (ofN L)) ∧ Hid (Below w.heap.size w wx))
  case first =>
    by_cases hik : i = k
    · subst hik
      have hxy : x = y := by rw [← hx'.out, ← hy'.out]
      subst hxy
      go_region
      all_goals
        go_wp2_with fail
        go_meet
        case rel => exact ⟨Lib.hid (hQ2'.out _ _).dr, Lib.hid (((hU7.out.other (fun e => by have := (hU6b.out _ e).2; omega) _).other (fun e => by have := (hU6b.out _ e).2; omega) _).dr), Lib.hid (((hB7'.out.setCell (by simp; omega) _).setCell (by simp; omega) _).drew)⟩
    · go_region
      all_goals
        go_wp2_with fail
        go_meet
        case rel => exact ⟨Lib.hid (hQ2'.out _ _).dr, Lib.hid (((hU7.out.other (fun e => by have := (hU6b.out _ e).2; omega) _).other (fun e => by have := (hU6b.out _ e).2; omega) _).dr), Lib.hid (((hB7'.out.setCell (by simp; omega) _).setCell (by simp; omega) _).drew)⟩
  case rest =>
    obtain ⟨hQ7, hU7c, hB7c⟩ := hcut
    have hne : i ≠ k → P ≠ (P.set i (x - 1)).set k (y + 1) := fun hik e => by
      have h1 : P.getD i 0 = ((P.set i (x - 1)).set k (y + 1)).getD i 0 := by rw [← e]
      rw [hx'.out] at h1
      rw [List.getD_eq_getElem?_getD, List.getElem?_set_ne (fun e => hik e.symm), List.getElem?_set_self (by rw [hPl'.out]; exact hin)] at h1
      simp at h1
      omega
    have hne' := Lib.hid hne
    have hQl : ((P.set i (x - 1)).set k (y + 1)).length ≤ 12 := by simp; omega
    generalize (P.set i (x - 1)).set k (y + 1) = Q2 at *
    clear hne hQ hqc' hU7 hB7' ci ck fi fk wx1 wy1 hQ2' hU7b bx1 bx2 by1 by2
    have hIr := Lib.hid hId.out
    obtain ⟨pr, cr, rfl, hpr⟩ := hId.out
    have hpr' := Lib.hid hpr
    obtain ⟨nr, hnr⟩ : ∃ nr, lr.length = nr := ⟨_, rfl⟩
    have hnr' := Lib.hid hnr
    have hcr := hcap _ _ _ rfl
    rw [hnr] at hld hcr ⊢
    clear hpr hnr hId hcap
    go_upto_if 90 with fail
    go_cut [4] (fun x wx => wx = wc ∧ ∃ lr2 : List Int, lr2.length ≤ 80 ∧ Hid (IntsAt w x lr2))
    case first =>
      by_cases h80 : 80 < nr
      · have hI80 : IntsAt w (.slice pr 80 cr) (lr.take 80) := by
          have hl8 : (lr.take 80).length = 80 := by rw [List.length_take, hnr'.out]; omega
          refine ⟨pr, cr, by rw [hl8], fun h0 => ?_⟩
          obtain ⟨b0, off, e1, hc⟩ := hpr'.out (by rw [hnr'.out]; omega)
          refine ⟨b0, off, e1, fun j hj => ?_⟩
          rw [hl8] at hj
          rw [hc j (by rw [hnr'.out]; omega)]
          simp [List.getD_eq_getElem?_getD, hj]
        have hI80' := Lib.hid hI80
        have hl8 : (lr.take 80).length ≤ 80 := by rw [List.length_take]; omega
        obtain ⟨b0, off, rfl, _⟩ := hpr'.out (by rw [hnr'.out]; omega)
        have hc80 : (80 : Int) ≤ (cr : Int) := by omega
        have hc81 : ¬ cr = 0 := by omega
        clear hI80
        go_wp2_with fail
        go_meet
        case rel => exact ⟨rfl, lr.take 80, hl8, hI80'⟩
      · have hI' : IntsAt w (.slice pr nr cr) lr := by have h := hIr.out; rw [hnr'.out] at h; exact h
        have hI2 := Lib.hid hI'
        have hl8 : lr.length ≤ 80 := by rw [hnr'.out]; omega
        clear hI'
        go_wp2_with fail
        go_meet
        case rel => exact ⟨rfl, lr, hl8, hI2⟩
    case rest =>
      obtain ⟨rfl, lr2, hl2, hI7⟩ := hcut
      have k0 := rsplit_any b _ lr2 wc (hI7.out.below hB7c.out) (by omega) (by omega) (by omega)
      have hck2 := fun w8 (hb : Below w.heap.size w w8) vp lp h2 h3 r hr => check_any b _ lr2 vp lp w8 (hI7.out.below hb) h2 (by omega) h3 (by omega) (by omega) r hr
      have hXl := parts_len b lr2
      obtain ⟨⟨X, E⟩, hXE⟩ : ∃ R, splitV b lr2 = R := ⟨_, rfl⟩
      simp only [hXE] at k0 hck2 hXl
      have k0' := Lib.hid k0
      have hck2 := Lib.hid hck2
      have hne2 := hne'
      clear k0 hXE
      by_cases hE : E = 0
      · subst hE
        obtain ⟨r, hr⟩ : ∃ r, decide (X = Q2) = r := ⟨_, rfl⟩
        have hrr : Hid (r = decide ((0 : Int) = 0 ∧ X = Q2)) := Lib.hid (by rw [← hr]; simp)
        have hre := Lib.hid hr
        clear hr
        by_cases hik : i = k
        · subst hik
          go_wp2_with fail
          refine k0'.out.mono ?_; rintro e w7 ⟨ux, rfl, hXr, hB7⟩
          simp only at hXr
          have hX := Lib.hid hXr
          have hQk := Lib.hid (hQ7.out.keep hB7)
          have hUk := Lib.hid (hU7c.out.keep hB7)
          have hB9 := Lib.hid (hB7c.out.trans (hB7.mono hB7c.out.size))
          have hsz9 := hB9.out.size
          have k1 := Lib.hid (hck2.out w7 hB9.out _ Q2 hQk.out.ints (by omega) r hrr.out)
          clear hXr hB7
          go_wp2_with fail
          refine k1.out.mono ?_; rintro e w9 ⟨rfl, hB8⟩
          have hBx := hB9
          have hszx := hsz9
          have hQ8 := hQk
          have hX8 := hX
          have hQ9 := Lib.hid (hQ8.out.keep hB8)
          have hX9 := Lib.hid (hX8.out.keep hB8)
          have hBy := Lib.hid (hBx.out.trans (hB8.mono hszx))
          have hszy := hBy.out.size
          clear hB8
          have k3 := same_any ux _ X Q2 w9 hX9.out.ints hQ9.out.ints (by omega) (by omega)
          rw [hre.out] at k3
          have k3' := Lib.hid k3
          clear k3
          go_wp2_with fail
          refine k3'.out.mono ?_; rintro e w10 ⟨rfl, nd, rfl⟩
          have haw := Lib.hid (awake_any (w9.drewN nd))
          have hBf := Lib.hid (fun w11 (h : Below (w9.drewN nd).heap.size (w9.drewN nd) w11) => (below_drewN hBy.out nd).trans (h.mono hszy))
          go_wp2_with fail
          refine haw.out.mono ?_; rintro e w11 ⟨rfl, h11⟩
          have hfin : BoolBe true w (.returned (.bool true)) w11 := ⟨rfl, hBf.out w11 h11⟩
          have hfin' := Lib.hid hfin
          clear h11 hfin
          go_wp2_with fail
          go_ret
          exact hfin'.out
        · have hikb : ((i : Int) == (k : Int)) = false := by simp; omega
          go_wp2_with fail
          refine k0'.out.mono ?_; rintro e w7 ⟨ux, rfl, hXr, hB7⟩
          simp only at hXr
          have hX := Lib.hid hXr
          have hQk := Lib.hid (hQ7.out.keep hB7)
          have hUk := Lib.hid (hU7c.out.keep hB7)
          have hB9 := Lib.hid (hB7c.out.trans (hB7.mono hB7c.out.size))
          have hsz9 := hB9.out.size
          have k1 := Lib.hid (hchk'.out w7 _ Q2 hUk.out.ints hQk.out.ints (by omega) false (by simp [hne'.out hik]))
          clear hXr hB7
          go_wp2_with fail
          refine k1.out.mono ?_; rintro e w8 ⟨rfl, hB8⟩
          have hQ8 := Lib.hid (hQk.out.keep hB8)
          have hBx := Lib.hid (hB9.out.trans (hB8.mono hsz9))
          have hX8 := Lib.hid (hX.out.keep hB8)
          have hszx := hBx.out.size
          have k2 := Lib.hid (hck2.out w8 hBx.out _ Q2 hQ8.out.ints (by omega) r hrr.out)
          clear hB8 k1
          go_wp2_with fail
          refine k2.out.mono ?_; rintro e w9 ⟨rfl, hB8⟩
          have hQ9 := Lib.hid (hQ8.out.keep hB8)
          have hX9 := Lib.hid (hX8.out.keep hB8)
          have hBy := Lib.hid (hBx.out.trans (hB8.mono hszx))
          have hszy := hBy.out.size
          clear hB8
          have k3 := same_any ux _ X Q2 w9 hX9.out.ints hQ9.out.ints (by omega) (by omega)
          rw [hre.out] at k3
          have k3' := Lib.hid k3
          clear k3
          go_wp2_with fail
          refine k3'.out.mono ?_; rintro e w10 ⟨rfl, nd, rfl⟩
          have haw := Lib.hid (awake_any (w9.drewN nd))
          have hBf := Lib.hid (fun w11 (h : Below (w9.drewN nd).heap.size (w9.drewN nd) w11) => (below_drewN hBy.out nd).trans (h.mono hszy))
          go_wp2_with fail
          refine haw.out.mono ?_; rintro e w11 ⟨rfl, h11⟩
          have hfin : BoolBe true w (.returned (.bool true)) w11 := ⟨rfl, hBf.out w11 h11⟩
          have hfin' := Lib.hid hfin
          clear h11 hfin
          go_wp2_with fail
          go_ret
          exact hfin'.out
      · have hrr : Hid (false = decide (E = 0 ∧ X = Q2)) := Lib.hid (by simp [hE])
        have hEb : (E == 0) = false := by simpa using hE
        by_cases hik : i = k
        · subst hik
          go_wp2_with fail
          refine k0'.out.mono ?_; rintro e w7 ⟨ux, rfl, hXr, hB7⟩
          simp only at hXr
          have hX := Lib.hid hXr
          have hQk := Lib.hid (hQ7.out.keep hB7)
          have hUk := Lib.hid (hU7c.out.keep hB7)
          have hB9 := Lib.hid (hB7c.out.trans (hB7.mono hB7c.out.size))
          have hsz9 := hB9.out.size
          have k1 := Lib.hid (hck2.out w7 hB9.out _ Q2 hQk.out.ints (by omega) false hrr.out)
          clear hXr hB7
          go_wp2_with fail
          refine k1.out.mono ?_; rintro e w9 ⟨rfl, hB8⟩
          have hBx := hB9
          have hszx := hsz9
          have hQ8 := hQk
          have hX8 := hX
          have hQ9 := Lib.hid (hQ8.out.keep hB8)
          have hX9 := Lib.hid (hX8.out.keep hB8)
          have hBy := Lib.hid (hBx.out.trans (hB8.mono hszx))
          have hszy := hBy.out.size
          clear hB8
          have haw := Lib.hid (awake_any w9)
          have hBf := Lib.hid (fun w11 (h : Below w9.heap.size w9 w11) => hBy.out.trans (h.mono hszy))
          go_wp2_with fail
          refine haw.out.mono ?_; rintro e w11 ⟨rfl, h11⟩
          have hfin : BoolBe true w (.returned (.bool true)) w11 := ⟨rfl, hBf.out w11 h11⟩
          have hfin' := Lib.hid hfin
          clear h11 hfin
          go_wp2_with fail
          go_ret
          exact hfin'.out
        · have hikb : ((i : Int) == (k : Int)) = false := by simp; omega
          go_wp2_with fail
          refine k0'.out.mono ?_; rintro e w7 ⟨ux, rfl, hXr, hB7⟩
          simp only at hXr
          have hX := Lib.hid hXr
          have hQk := Lib.hid (hQ7.out.keep hB7)
          have hUk := Lib.hid (hU7c.out.keep hB7)
          have hB9 := Lib.hid (hB7c.out.trans (hB7.mono hB7c.out.size))
          have hsz9 := hB9.out.size
          have k1 := Lib.hid (hchk'.out w7 _ Q2 hUk.out.ints hQk.out.ints (by omega) false (by simp [hne'.out hik]))
          clear hXr hB7
          go_wp2_with fail
          refine k1.out.mono ?_; rintro e w8 ⟨rfl, hB8⟩
          have hQ8 := Lib.hid (hQk.out.keep hB8)
          have hBx := Lib.hid (hB9.out.trans (hB8.mono hsz9))
          have hX8 := Lib.hid (hX.out.keep hB8)
          have hszx := hBx.out.size
          have k2 := Lib.hid (hck2.out w8 hBx.out _ Q2 hQ8.out.ints (by omega) false hrr.out)
          clear hB8 k1
          go_wp2_with fail
          refine k2.out.mono ?_; rintro e w9 ⟨rfl, hB8⟩
          have hQ9 := Lib.hid (hQ8.out.keep hB8)
          have hX9 := Lib.hid (hX8.out.keep hB8)
          have hBy := Lib.hid (hBx.out.trans (hB8.mono hszx))
          have hszy := hBy.out.size
          clear hB8
          have haw := Lib.hid (awake_any w9)
          have hBf := Lib.hid (fun w11 (h : Below w9.heap.size w9 w11) => hBy.out.trans (h.mono hszy))
          go_wp2_with fail
          refine haw.out.mono ?_; rintro e w11 ⟨rfl, h11⟩
          have hfin : BoolBe true w (.returned (.bool true)) w11 := ⟨rfl, hBf.out w11 h11⟩
          have hfin' := Lib.hid hfin
          clear h11 hfin
          go_wp2_with fail
          go_ret
          exact hfin'.out
end Go.Proofs.Ytnjghcncibogeaa.Spl
