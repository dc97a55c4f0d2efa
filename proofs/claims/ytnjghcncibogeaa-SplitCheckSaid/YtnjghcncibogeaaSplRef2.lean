/- Split of the reference at negative amounts, and at all arguments. -/
import Derived.Test.YtnjghcncibogeaaSplRef
namespace Go.Proofs.Ytnjghcncibogeaa.Spl
open Go.RowKit Go.Lib Go.Proofs.Ytnjghcncibogeaa.Bas Go.Proofs.Ytnjghcncibogeaa.Dk
set_option linter.unusedVariables false

set_option maxRecDepth 100000 in
set_option maxHeartbeats 2000000 in
theorem rsplit_neg (b : Nat) (hb0 : 0 < b) (v : Value) (l : List Nat) (w : World) (h : IntsAt w v (ofN l)) (hn : 0 < l.length) (h64 : l.length ≤ 64) (hb : b ≤ 17592186044416) (hl : ∀ x ∈ l, x ≤ 17592186044416) (hs0 : 0 < W l) :
    Calls Try.prog 13 #[.int .i64 (-(b : Int)), v] w (Out2 (sg (-(b : Int)) (parts b l), 0) w) := by
  obtain ⟨n, hnn⟩ : ∃ n, l.length = n := ⟨_, rfl⟩
  obtain ⟨s, hs⟩ : ∃ s, W l = s := ⟨_, rfl⟩
  have hokl : ∀ x ∈ ofN l, okW x := ofN_ok l hl
  have hsb : s ≤ 1125899906842624 := by
    rw [← hs]; have := S_wt_le l l.length (Nat.le_refl _) _ hl; unfold W; omega
  have hV : wtsV (ofN l) = ((s : Int), 0) := by unfold wtsV; rw [if_pos hokl, toNat_ofN, hs]
  have c1 := Lib.hid (weights_ref v (ofN l) w h (by rw [ofN_length]; exact h64) _ _ hV)
  have c2 := Lib.hid (rvalid_var (-(b : Int)) true (by rw [decide_eq_true]; unfold okI; omega))
  have hI := Lib.hid h
  obtain ⟨p, c, rfl, hp⟩ := h
  rw [ofN_length] at *
  rw [hnn] at hn h64 hp c1 ⊢
  rw [hs] at hs0
  have hnb : ((n : Int) == 0) = false := by simp; omega
  have hsb0 : ((s : Int) == 0) = false := by simp; omega
  have hp' := Lib.hid hp
  have hl' := Lib.hid hl
  have hnn' := Lib.hid hnn
  have hs' := Lib.hid hs
  clear hp hl hnn hs hokl hV
  go_enter Try.func13, Try.ntmps13
  go_wp2_with fail
  refine c1.out.mono ?_; rintro e w' ⟨rfl, nd, rfl⟩
  go_wp2_with fail
  refine (c2.out _).mono ?_; rintro e w' ⟨rfl, rfl⟩
  go_upto_region 13 with fail
  have hmk := run_zeros n (by omega)
  go_cut [9, 10] (fun x y wx => Two n w.heap.size w x y wx)
  case first =>
    go_region
    all_goals
      clear hmk
      go_wp2_with fail
      go_meet
      case rel =>
        have h2 := two_a w (w.drewN (nd + 1)) n w.heap.size (below_drewN (Below.refl _ _) _) (by simp) (by omega)
        first | exact h2 | exact h2.swap
  case rest =>
    obtain ⟨g1, g2, rfl, rfl, hgg, hP, hR, hB⟩ := hcut
    rw [show List.replicate n (0 : Int) = ofN (stL (qu b l) n 0) by rw [stL_zero]] at hP
    rw [show List.replicate n (0 : Int) = ofN (stL (re b l) n 0) by rw [stL_zero]] at hR
    have hg1 := (row_at hP hn).1
    have hg2 := (row_at hR hn).1
    have hP' := Lib.hid hP
    have hR' := Lib.hid hR
    have hB' := Lib.hid hB
    clear hP hR hB hmk
    go_upto_block 0 with fail
    go_cut [11] (fun x wx => ∃ y : Nat, x = .int .i64 y ∧ Hid (lef b l = y) ∧ Hid (Row 3 .i64 w.heap.size wx (.slice (some ⟨g1, 0, none⟩) n n) (ofN (stL (qu b l) n n))) ∧ Hid (Row 3 .i64 w.heap.size wx (.slice (some ⟨g2, 0, none⟩) n n) (ofN (stL (re b l) n n))) ∧ Hid (Below w.heap.size w wx))
    case first =>
      go_wp2_with fail
      go_loopw [11, 12] (fun x i wr => ∃ k : Nat, k ≤ n ∧ i = .int .i64 k ∧ (∃ y : Nat, x = .int .i64 y ∧ Hid (y + S (qu b l) k = b)) ∧ Hid (Row 3 .i64 w.heap.size wr (.slice (some ⟨g1, 0, none⟩) n n) (ofN (stL (qu b l) n k))) ∧ Hid (Row 3 .i64 w.heap.size wr (.slice (some ⟨g2, 0, none⟩) n n) (ofN (stL (re b l) n k))) ∧ Hid (Below w.heap.size w wr)) (fun _ i _ => n - (RowKit.intOf i).toNat)
      case atStart => exact ⟨0, Nat.zero_le _, rfl, ⟨b, rfl, Lib.hid (by simp [S])⟩, hP', hR', hB'⟩
      case round =>
        obtain ⟨k, hk, rfl, ⟨y, rfl, hy⟩, hP, hR, hB⟩ := hrel
        have hyb : y ≤ b := by have := hy.out; omega
        have hyb2 : (y : Int) ≤ 17592186044416 := by omega
        by_cases hlt : k < n
        · obtain ⟨bb, off, rfl, hc⟩ := hp'.out (by omega)
          have hlb : bb < w.heap.size := World.block_lt_of_cell? _ _ (hc k hlt)
          have hck : wr.cell? ⟨bb, off + k, none⟩ = some (.int .i64 (wt l k)) := by
            rw [hB.out.cell (p := ⟨bb, off + k, none⟩) hlb, hc k hlt, ofN_getD]
          have bx := S_wt_lt l k (by rw [hnn'.out]; exact hlt) _ hl'.out
          have hq : b * wt l k / s = qu b l k := by rw [← hs'.out]; rfl
          have hr : b * wt l k % s = re b l k := by rw [← hs'.out]; rfl
          have bq : qu b l k ≤ b := qu_le b l k (by rw [hnn'.out]; exact hlt)
          have hd := fun w => divide_yes b (wt l k) s (qu b l k) (re b l k) (Lib.hid hq) (Lib.hid hr) hb bx hs0 (by omega) w (by rw [hq]; omega)
          have hd' := Lib.hid hd
          have cc1 := row_cell hP.out k hlt
          have f1 := hP.out.frozen k
          have cc2 := row_cell hR.out k hlt
          have f2 := hR.out.frozen k
          have s1 : ∀ w', Row 3 .i64 w.heap.size w' (.slice (some ⟨g1, 0, none⟩) n n) (ofN (stL (qu b l) n k)) → Row 3 .i64 w.heap.size (w'.setCell ⟨g1, k, none⟩ (.int .i64 (qu b l k))) (.slice (some ⟨g1, 0, none⟩) n n) (ofN (stL (qu b l) n (k + 1))) := fun w' h => by
            rw [← stL_set]; exact row_set h k (qu b l k)
          have s2 : ∀ w', Row 3 .i64 w.heap.size w' (.slice (some ⟨g2, 0, none⟩) n n) (ofN (stL (re b l) n k)) → Row 3 .i64 w.heap.size (w'.setCell ⟨g2, k, none⟩ (.int .i64 (re b l k))) (.slice (some ⟨g2, 0, none⟩) n n) (ofN (stL (re b l) n (k + 1))) := fun w' h => by
            rw [← stL_set]; exact row_set h k (re b l k)
          have s1' := Lib.hid s1
          have s2' := Lib.hid s2
          have hst : y - qu b l k + S (qu b l) (k + 1) = b ∧ qu b l k ≤ y := by
            have h1 := hy.out
            have h2 : S (qu b l) (k + 1) ≤ S (qu b l) l.length := S_le_of_le (by rw [hnn'.out]; omega)
            have h3 := sum_q b l (by rw [hs'.out]; exact hs0)
            simp only [S] at h2 ⊢
            omega
          obtain ⟨hst1, hst2⟩ := hst
          have hst' := Lib.hid hst1
          have hst2' : (qu b l k : Int) ≤ (y : Int) := by omega
          have hsub : (y : Int) - (qu b l k : Int) = ((y - qu b l k : Nat) : Int) := by omega
          have hsub' := Lib.hid hsub
          clear hc s1 s2 hd hq hr hlb hst1 hsub hst2
          generalize wt l k = x at *
          generalize qu b l k = q at *
          generalize re b l k = r at *
          go_wp2_with fail
          refine (hd'.out _).mono ?_; rintro e w' ⟨rfl, nd2, rfl⟩
          go_wp2_with fail
          go_roundw
          case rel => exact ⟨k + 1, by omega, by go_num, ⟨y - q, by rw [hsub'.out], hst'⟩, Lib.hid ((s1'.out _ (hP.out.drewN nd2)).other (by simp [Value.ownBlock]; omega) _), Lib.hid (s2'.out _ ((hR.out.drewN nd2).other (by simp [Value.ownBlock]; omega) _)), Lib.hid (((below_drewN hB.out nd2).setCell hg1 _).setCell (by simp; omega) _)⟩
          case measure => simp [RowKit.intOf]; omega
        · obtain rfl : k = n := by omega
          have hle : lef b l = y := by
            have h1 := hy.out
            unfold lef; rw [hnn'.out]; omega
          have hle' := Lib.hid hle
          clear hle
          go_wp2_with fail
          go_meet
          case rel => exact ⟨y, rfl, hle', hP, hR, hB⟩
    case rest =>
      obtain ⟨t, rfl, ht, hP, hR, hB⟩ := hcut
      rw [stL_full] at hP hR
      have hP2 : Row 3 .i64 w.heap.size wc (.slice (some ⟨g1, 0, none⟩) n n) (ofN (ptL b l 0)) := by rw [ptL_zero, hnn'.out]; exact hP.out
      have hR2 : Row 3 .i64 w.heap.size wc (.slice (some ⟨g2, 0, none⟩) n n) (rsL b l 0) := by rw [rs_zero, hnn'.out]; exact hR.out
      have htn : t ≤ n := by
        have := lef_le b l (by rw [hs'.out]; exact hs0)
        rw [ht.out, hnn'.out] at this; exact this
      have hP2' := Lib.hid hP2
      have hR2' := Lib.hid hR2
      clear hP hR hP2 hR2
      go_upto_block 2 with fail
      go_cut [11] (fun x wx => Hid (Row 3 .i64 w.heap.size wx (.slice (some ⟨g1, 0, none⟩) n n) (ofN (parts b l))) ∧ Hid (Below w.heap.size w wx))
      case first =>
        go_wp2_with fail
        go_loopw [11] (fun x wr => ∃ j u : Nat, x = .int .i64 j ∧ u + j = t ∧ Hid (Row 3 .i64 w.heap.size wr (.slice (some ⟨g1, 0, none⟩) n n) (ofN (ptL b l u))) ∧ Hid (Row 3 .i64 w.heap.size wr (.slice (some ⟨g2, 0, none⟩) n n) (rsL b l u)) ∧ Hid (Below w.heap.size w wr)) (fun x _ => (RowKit.intOf x).toNat)
        case atStart => exact ⟨t, 0, rfl, by omega, hP2', hR2', hB⟩
        case round =>
          obtain ⟨j, u, rfl, hju, hP3, hR3, hB3⟩ := hrel
          by_cases hj : 0 < j
          · have hun : u < n := by omega
            have hRl : ∀ i, i < n → wr.cell? ⟨g2, i, none⟩ = some (.int .i64 (rs b l u i)) := fun i hi => by
              obtain ⟨q2, cc2, h1, h2⟩ := hR3.out.shape
              simp only [Value.slice.injEq, rsL_length, hnn'.out] at h1 h2
              obtain ⟨g', h3, _, _, hcell⟩ := h2 hn
              rw [← h1.1] at h3; cases h3
              rw [hcell i hi, rsL_at _ _ _ _ (by rw [hnn'.out]; exact hi)]
            have hRl' := Lib.hid hRl
            have hrb := Lib.hid (fun i => rs_bd b l u i (by rw [hs'.out]; exact hs0))
            have hju2 : (j : Int) ≤ 64 := by omega
            clear hRl
            go_wp2_with fail
            go_loopw [13, 14] (fun x i wi => ∃ k bb : Nat, 1 ≤ k ∧ k ≤ n ∧ i = .int .i64 k ∧ x = .int .i64 bb ∧ bb < n ∧ Hid (Best b l u k bb) ∧ Hid (Dr wr wi)) (fun _ i _ => n - (RowKit.intOf i).toNat)
            case atStart => exact ⟨1, 0, by omega, by omega, rfl, rfl, hn, Lib.hid (best_one b l u), Lib.hid (Dr.refl _)⟩
            case round =>
              obtain ⟨k, bb, hk0, hk, rfl, rfl, hbn, hBest, hDr⟩ := hrel
              obtain ⟨nd3, rfl⟩ := hDr.out
              by_cases hlt : k < n
              · have d1 := hRl'.out k hlt
                have d2 := hRl'.out bb hbn
                have bn := Lib.hid (fun h => best_new hBest.out h)
                have bo := Lib.hid (fun h => best_old hBest.out h)
                have l1 : (k : Int) < (n : Int) := by omega
                have l2 : (bb : Int) < (n : Int) := by omega
                generalize rs b l u k = x at *
                generalize rs b l u bb = y at *
                by_cases hxy : y < x
                · have t1 : decide (y < x) = true := by simp; omega
                  have hb2 := Lib.hid (bn.out hxy)
                  clear hxy
                  go_wp2_with fail
                  go_quiet (fail)
                  go_wp2_with fail
                  go_roundw
                  case rel => exact ⟨k + 1, k, by omega, by omega, by go_num, rfl, hlt, hb2, Lib.hid ⟨_, rfl⟩⟩
                  case measure => simp [RowKit.intOf]; omega
                · have t1 : decide (y < x) = false := by simp; omega
                  have hb2 := Lib.hid (bo.out hxy)
                  clear hxy
                  go_wp2_with fail
                  go_quiet (fail)
                  go_wp2_with fail
                  go_roundw
                  case rel => exact ⟨k + 1, bb, by omega, by omega, by go_num, rfl, hbn, hb2, Lib.hid ⟨_, rfl⟩⟩
                  case measure => simp [RowKit.intOf]; omega
              · obtain rfl : k = n := by omega
                have hbl : bb < l.length := by rw [hnn'.out]; exact hbn
                have hrk : rk (re b l) l.length bb = u := best_rank (by rw [hnn'.out]; exact hun) (by rw [hnn'.out]; exact hBest.out)
                have e1 := ptL_set2 b l u bb hbl hrk
                have e2 := rsL_set b l u bb hbl hrk
                have d1 := row_cell hP3.out bb hbn
                have f1 := hP3.out.frozen bb
                have d2 := hRl'.out bb hbn
                have f2 := hR3.out.frozen bb
                have s1 : ∀ w', Row 3 .i64 w.heap.size w' (.slice (some ⟨g1, 0, none⟩) k k) (ofN (ptL b l u)) → Row 3 .i64 w.heap.size (w'.setCell ⟨g1, bb, none⟩ (.int .i64 ((wt (ptL b l u) bb : Int) + 1))) (.slice (some ⟨g1, 0, none⟩) k k) (ofN (ptL b l (u + 1))) := fun w' h => by
                  have := row_set h bb (wt (ptL b l u) bb + 1)
                  rw [e1] at this; simpa using this
                have s2 : ∀ w', Row 3 .i64 w.heap.size w' (.slice (some ⟨g2, 0, none⟩) k k) (rsL b l u) → Row 3 .i64 w.heap.size (w'.setCell ⟨g2, bb, none⟩ (.int .i64 (-1))) (.slice (some ⟨g2, 0, none⟩) k k) (rsL b l (u + 1)) := fun w' h => by
                  rw [← e2]; exact h.store bb (-1)
                have s1' := Lib.hid s1
                have s2' := Lib.hid s2
                have hz : wt (ptL b l u) bb ≤ 17592186044417 := by
                  have h1 : wt (ptL b l u) bb = pt b l u bb := wt_map_range _ _ _ hbl
                  have h2 := qu_le b l bb hbl
                  rw [h1]; unfold pt; split <;> omega
                have l2 : (bb : Int) < (k : Int) := by omega
                have hgg' : g1 ≠ g2 := hgg
                have d2' : ∀ v, ((wr.drewN nd3).setCell ⟨g1, bb, none⟩ v).cell? ⟨g2, bb, none⟩ = some (.int .i64 (rs b l u bb)) := fun v => by
                  rw [World.cell?_setCell_other _ _ _ _ (by intro e; simp only [Addr.mk.injEq] at e; exact hgg e.1)]; exact d2
                have d2'' := Lib.hid d2'
                clear s1 s2 e1 e2 hrk hbl d2'
                generalize wt (ptL b l u) bb = z at *
                generalize rs b l u bb = y at *
                go_wp2_with fail
                go_roundw
                case rel => exact ⟨j - 1, u + 1, by rw [show ((j - 1 : Nat) : Int) = (j : Int) - 1 by omega], by omega, Lib.hid ((s1'.out _ (hP3.out.drewN nd3)).other (by simp [Value.ownBlock]; omega) _), Lib.hid (s2'.out _ ((hR3.out.drewN nd3).other (by simp [Value.ownBlock]; omega) _)), Lib.hid (((below_drewN hB3.out nd3).setCell hg1 _).setCell hg2 _)⟩
                case measure => simp [RowKit.intOf]; omega
          · obtain rfl : j = 0 := by omega
            obtain rfl : u = t := by omega
            have e : ptL b l u = parts b l := by rw [← ht.out]; rfl
            rw [e] at hP3
            clear e hju
            go_wp2_with fail
            go_meet
            case rel => exact ⟨hP3, hB3⟩
      case rest =>
        obtain ⟨hP4, hB4⟩ := hcut
        have hpl : (parts b l).length = n := by simp [parts, hnn'.out]
        have hsgl := sgL_full (-(b : Int)) (parts b l)
        rw [if_pos (by omega), hpl] at hsgl
        have hpb : ∀ k, k < n → wt (parts b l) k ≤ 17592186044416 := fun k hk => by
          have e1 : wt (parts b l) k = part b l k := wt_map_range _ _ _ (by rw [hnn'.out]; exact hk)
          have := part_le' b l (by rw [hs'.out]; exact hs0) k (by rw [hnn'.out]; exact hk)
          omega
        have hP5 : Row 3 .i64 w.heap.size wc (.slice (some ⟨g1, 0, none⟩) n n) (sgL (-1) (parts b l) 0) := by rw [sgL_zero]; exact hP4.out
        have hP5' := Lib.hid hP5
        have hpl' := Lib.hid hpl
        have hsgl' := Lib.hid hsgl
        have hpb' := Lib.hid hpb
        clear hP5 hpl hsgl hpb
        go_wp2_with fail
        go_loopw [15] (fun i wr => ∃ k : Nat, k ≤ n ∧ i = .int .i64 k ∧ Hid (Row 3 .i64 w.heap.size wr (.slice (some ⟨g1, 0, none⟩) n n) (sgL (-1) (parts b l) k)) ∧ Hid (Below w.heap.size w wr)) (fun i _ => n - (RowKit.intOf i).toNat)
        case atStart => exact ⟨0, Nat.zero_le _, rfl, hP5', hB4⟩
        case round =>
          obtain ⟨k, hk, rfl, hP, hB⟩ := hrel
          by_cases hlt : k < n
          · have c5 : wr.cell? ⟨g1, k, none⟩ = some (.int .i64 (wt (parts b l) k)) := by
              obtain ⟨q2, cc2, h1, h2⟩ := hP.out.shape
              simp only [Value.slice.injEq, sgL_length] at h1 h2
              obtain ⟨g', h3, _, _, hcell⟩ := h2 (by rw [hpl'.out]; omega)
              rw [← h1.1] at h3; cases h3
              rw [hcell k (by rw [hpl'.out]; omega), sgL_at _ _ _ (by rw [hpl'.out]; omega)]
            have f5 := hP.out.frozen k
            have s5 := hP.out.store k ((wt (parts b l) k : Int) * (-1))
            rw [sgL_set] at s5
            have s5' := Lib.hid s5
            have b5 := hpb'.out k hlt
            have l1 : (k : Int) < (n : Int) := by omega
            clear s5
            generalize wt (parts b l) k = z at *
            go_wp2_with fail
            go_roundw
            case rel => exact ⟨k + 1, by omega, by go_num, Lib.hid (by have h := s5'.out; simp at h ⊢; exact h), Lib.hid (hB.out.setCell hg1 _)⟩
            case measure => simp [RowKit.intOf]; omega
          · obtain rfl : k = n := by omega
            rw [hsgl'.out] at hP
            have hfin : Out2 (sg (-(b : Int)) (parts b l), 0) w (.returned (.tuple #[.slice (some ⟨g1, 0, none⟩) k k, .int .i64 0])) wr := ⟨_, rfl, hP.out, hB.out⟩
            have hfin' := Lib.hid hfin
            clear hfin
            go_wp2_with fail
            go_ret2
            exact hfin'.out

set_option maxHeartbeats 1000000 in
theorem rsplit_any (a : Int) (v : Value) (l : List Int) (w : World) (h : IntsAt w v l) (hl : l.length ≤ 9223372036854775807) (b1 : -9223372036854775808 ≤ a) (b2 : a ≤ 9223372036854775807) :
    Calls Try.prog 13 #[.int .i64 a, v] w (Out2 (splitV a l) w) := by
  by_cases h0 : l.length = 0
  · have e : splitV a l = ([], 19) := by unfold splitV; rw [if_pos h0]
    rw [e]
    have hO := Lib.hid (Out2.none 19 w)
    obtain ⟨p, c, rfl, hp⟩ := h
    rw [h0]
    clear hp e hl
    go_enter Try.func13, Try.ntmps13
    go_wp2_with fail
    go_ret2
    exact hO.out
  · by_cases h1 : 64 < l.length
    · have e : splitV a l = ([], 4) := by unfold splitV; rw [if_neg h0, if_pos h1]
      rw [e]
      have hO := Lib.hid (Out2.none 4 w)
      obtain ⟨p, c, rfl, hp⟩ := h
      generalize l.length = n at *
      have hnb : ((n : Int) == 0) = false := by simp; omega
      clear hp e h0
      go_enter Try.func13, Try.ntmps13
      go_wp2_with fail
      go_ret2
      exact hO.out
    · by_cases h3 : ∀ x ∈ l, okW x
      · by_cases h2 : okI a
        · obtain ⟨m, rfl, hm⟩ := ofN_of l h3
          rw [ofN_length] at h0 h1
          by_cases h4 : W m = 0
          · have e : splitV a (ofN m) = ([], 2) := by unfold splitV; rw [ofN_length, if_neg h0, if_neg h1, if_neg (by simpa using h2), if_neg (by simpa using h3), toNat_ofN, if_pos h4]
            rw [e]
            have hO : ∀ nd, Out2 ([], 2) w (.returned (.tuple #[.slice none 0 0, .int .i64 2])) (w.drewN nd) := fun nd => ⟨_, rfl, row_nil _ _, below_drewN (Below.refl _ _) nd⟩
            have hO := Lib.hid hO
            have hV : wtsV (ofN m) = (0, 0) := by unfold wtsV; rw [if_pos h3, toNat_ofN, h4]; rfl
            have c1 := Lib.hid (weights_ref v (ofN m) w h (by rw [ofN_length]; omega) _ _ hV)
            have c2 := Lib.hid (rvalid_var a true (by rw [decide_eq_true h2]))
            obtain ⟨p, c, rfl, hp⟩ := h
            rw [ofN_length] at *
            generalize m.length = n at *
            have hnb : ((n : Int) == 0) = false := by simp; omega
            have hnc : decide (64 < (n : Int)) = false := by simp; omega
            clear hp e h0 h3 h4 hm h2 hV
            go_enter Try.func13, Try.ntmps13
            go_wp2_with fail
            refine c1.out.mono ?_; rintro e w' ⟨rfl, nd, rfl⟩
            go_wp2_with fail
            refine (c2.out _).mono ?_; rintro e w' ⟨rfl, rfl⟩
            go_wp2_with fail
            go_ret2
            exact hO.out _
          · rw [splitV_ok a m (by omega) (by omega) h2 hm (by omega)]
            unfold okI at h2
            by_cases h5 : a < 0
            · have := rsplit_neg a.natAbs (by omega) v m w h (by omega) (by omega) (by omega) hm (by omega)
              rw [show (-(a.natAbs : Int)) = a by omega] at this
              exact this
            · have := rsplit_pos a.natAbs v m w h (by omega) (by omega) (by omega) hm (by omega)
              rw [show ((a.natAbs : Int)) = a by omega] at this
              exact this
        · have e : splitV a l = ([], 1) := by unfold splitV; rw [if_neg h0, if_neg h1, if_pos h2]
          rw [e]
          have hO : ∀ nd, Out2 ([], 1) w (.returned (.tuple #[.slice none 0 0, .int .i64 1])) (w.drewN nd) := fun nd => ⟨_, rfl, row_nil _ _, below_drewN (Below.refl _ _) nd⟩
          have hO := Lib.hid hO
          obtain ⟨s, hs⟩ : ∃ s : Nat, W (l.map Int.toNat) = s := ⟨_, rfl⟩
          have hV : wtsV l = ((s : Int), 0) := by unfold wtsV; rw [if_pos h3, hs]
          have c1 := Lib.hid (weights_ref v l w h (by omega) _ _ hV)
          have c2 := Lib.hid (rvalid_var a false (by rw [decide_eq_false h2]))
          obtain ⟨p, c, rfl, hp⟩ := h
          generalize l.length = n at *
          have hnb : ((n : Int) == 0) = false := by simp; omega
          have hnc : decide (64 < (n : Int)) = false := by simp; omega
          clear hp e h0 h3 h2 hV hs
          go_enter Try.func13, Try.ntmps13
          go_wp2_with fail
          refine c1.out.mono ?_; rintro e w' ⟨rfl, nd, rfl⟩
          go_wp2_with fail
          refine (c2.out _).mono ?_; rintro e w' ⟨rfl, rfl⟩
          go_wp2_with fail
          go_ret2
          exact hO.out _
      · have e : splitV a l = ([], 1) := by
          unfold splitV; rw [if_neg h0, if_neg h1]
          by_cases h2 : okI a
          · rw [if_neg (by simpa using h2), if_pos h3]
          · rw [if_pos h2]
        rw [e]
        have hO : ∀ nd, Out2 ([], 1) w (.returned (.tuple #[.slice none 0 0, .int .i64 1])) (w.drewN nd) := fun nd => ⟨_, rfl, row_nil _ _, below_drewN (Below.refl _ _) nd⟩
        have hO := Lib.hid hO
        have hV : wtsV l = (0, 1) := by unfold wtsV; rw [if_neg h3]
        have c1 := Lib.hid (weights_ref v l w h (by omega) _ _ hV)
        obtain ⟨p, c, rfl, hp⟩ := h
        generalize l.length = n at *
        have hnb : ((n : Int) == 0) = false := by simp; omega
        have hnc : decide (64 < (n : Int)) = false := by simp; omega
        clear hp e h0 h3 hV
        go_enter Try.func13, Try.ntmps13
        go_wp2_with fail
        refine c1.out.mono ?_; rintro e w' ⟨rfl, nd, rfl⟩
        go_wp2_with fail
        go_ret2
        exact hO.out _
end Go.Proofs.Ytnjghcncibogeaa.Spl
