/- Split of the reference: the units that are left over go to the greatest remainder, one by one; it is what Split of the package returns. -/
import Derived.Test.YtnjghcncibogeaaSplRef0
namespace Go.Proofs.Ytnjghcncibogeaa.Spl
open Go.RowKit Go.Lib Go.Proofs.Ytnjghcncibogeaa.Bas Go.Proofs.Ytnjghcncibogeaa.Dk
set_option linter.unusedVariables false

/-- The remainders when t units have been given out: who has got one has -1. -/
def rs (a : Nat) (l : List Nat) (t i : Nat) : Int := if rk (re a l) l.length i < t then -1 else ((re a l i : Nat) : Int)
def rsL (a : Nat) (l : List Nat) (t : Nat) : List Int := (List.range l.length).map (rs a l t)
theorem rsL_length (a : Nat) (l : List Nat) (t : Nat) : (rsL a l t).length = l.length := by simp [rsL]
theorem rsL_at (a : Nat) (l : List Nat) (t i : Nat) (h : i < l.length) : (rsL a l t).getD i 0 = rs a l t i := by
  simp [rsL, List.getD_eq_getElem?_getD, h]
theorem rs_bd (a : Nat) (l : List Nat) (t i : Nat) (h : 0 < W l) : -1 ≤ rs a l t i ∧ rs a l t i < W l := by
  unfold rs
  have := re_lt a l i h
  split <;> omega
theorem rs_zero (a : Nat) (l : List Nat) : rsL a l 0 = ofN ((List.range l.length).map (re a l)) := by
  unfold rsL ofN
  rw [List.map_map]
  apply List.map_congr_left
  intro i _
  simp [rs]
/-- The best of the first k: the greatest remainder, the lowest index. -/
def Best (a : Nat) (l : List Nat) (t k b : Nat) : Prop := b < k ∧ (∀ j, j < k → rs a l t j ≤ rs a l t b) ∧ ∀ j, j < b → rs a l t j < rs a l t b
theorem best_one (a : Nat) (l : List Nat) (t : Nat) : Best a l t 1 0 := by
  refine ⟨by omega, fun j hj => ?_, fun j hj => by omega⟩
  obtain rfl : j = 0 := by omega
  exact Int.le_refl _
theorem best_new {a : Nat} {l : List Nat} {t k b : Nat} (h : Best a l t k b) (hlt : rs a l t b < rs a l t k) : Best a l t (k + 1) k := by
  refine ⟨by omega, fun j hj => ?_, fun j hj => ?_⟩
  · rcases Nat.lt_or_ge j k with h1 | h1
    · have := h.2.1 j h1; omega
    · obtain rfl : j = k := by omega
      exact Int.le_refl _
  · have := h.2.1 j hj; omega
theorem best_old {a : Nat} {l : List Nat} {t k b : Nat} (h : Best a l t k b) (hge : ¬ rs a l t b < rs a l t k) : Best a l t (k + 1) b := by
  refine ⟨by have := h.1; omega, fun j hj => ?_, h.2.2⟩
  rcases Nat.lt_or_ge j k with h1 | h1
  · exact h.2.1 j h1
  · obtain rfl : j = k := by omega
    omega
theorem best_rank {a : Nat} {l : List Nat} {t b : Nat} (ht : t < l.length) (h : Best a l t l.length b) : rk (re a l) l.length b = t := by
  obtain ⟨m, hm, e⟩ := rk_has (re a l) l.length t ht
  obtain ⟨h1, h2, h3⟩ := h
  have g1 : rs a l t m = ((re a l m : Nat) : Int) := by unfold rs; rw [if_neg (by omega)]
  have g2 := h2 m hm
  have g3 : ¬ rk (re a l) l.length b < t := by
    intro hb
    have : rs a l t b = -1 := by unfold rs; rw [if_pos hb]
    omega
  have g4 : rs a l t b = ((re a l b : Nat) : Int) := by unfold rs; rw [if_neg g3]
  rcases Nat.eq_or_lt_of_le (Nat.le_of_not_lt g3) with h5 | h5
  · exact h5.symm
  · have h6 := bet_of_rk h1 hm (show rk (re a l) l.length m < rk (re a l) l.length b by omega)
    rw [bet_iff] at h6
    rcases h6 with h6 | ⟨h6, h7⟩
    · omega
    · have := h3 m h7; omega
theorem rsL_set (a : Nat) (l : List Nat) (t b : Nat) (hb : b < l.length) (h : rk (re a l) l.length b = t) : (rsL a l t).set b (-1) = rsL a l (t + 1) := by
  apply List.ext_getElem
  · simp [rsL]
  · intro i h1 h2
    have hi : i < l.length := by simpa [rsL] using h2
    rw [List.getElem_set]
    by_cases e : b = i
    · subst e
      rw [if_pos rfl]
      simp [rsL, rs, h]
    · rw [if_neg e]
      have h3 : rk (re a l) l.length i ≠ t := fun x => e (rk_inj hb hi (by rw [h, x]))
      have : (rk (re a l) l.length i < t + 1) ↔ rk (re a l) l.length i < t := by omega
      simp [rsL, rs, this]
theorem ptL_set2 (a : Nat) (l : List Nat) (t b : Nat) (hb : b < l.length) (h : rk (re a l) l.length b = t) : (ptL a l t).set b (wt (ptL a l t) b + 1) = ptL a l (t + 1) := by
  apply List.ext_getElem
  · simp [ptL]
  · intro i h1 h2
    have hi : i < l.length := by simpa [ptL] using h2
    rw [List.getElem_set]
    by_cases e : b = i
    · subst e
      rw [if_pos rfl]
      have e2 : wt (ptL a l t) b = pt a l t b := wt_map_range _ _ _ hb
      have e3 : (ptL a l (t + 1))[b] = pt a l (t + 1) b := by simp [ptL]
      rw [e2, e3]
      simp [pt, h]
    · rw [if_neg e]
      have h3 : rk (re a l) l.length i ≠ t := fun x => e (rk_inj hb hi (by rw [h, x]))
      have : (rk (re a l) l.length i < t + 1) ↔ rk (re a l) l.length i < t := by omega
      simp [ptL, pt, this]

theorem made_zeros (n : Nat) : madeCells (Value.int .i64 0).cells (n * 1) = Array.replicate n (Value.int .i64 0) := by
  apply Array.ext
  · simp [madeCells]
  · intro i h1 h2
    simp [madeCells, Value.cells, Nat.mod_one]
/-- make of n ints, as one equation. -/
theorem run_zeros (n : Nat) (hn : n ≤ 1048576) (W : World) : (Instr.makeSlice 22 (.int .i64 (n : Int)) (.int .i64 (n : Int))).run Try.prog W = .ok (.slice (some ⟨W.heap.size, 0, none⟩) n n) (W.alloc (.cells (Array.replicate n (Value.int .i64 0)) 3)) := by
  obtain ⟨i, hi, hz0, hz1, hz2⟩ := info_parts info_int
  have h := run_make (P := Try.prog) W 22 3 i (.int .i64 0) Try.underlying22 hi hz0 .i64 .i64 (n : Int) (n : Int) (by omega) (Int.le_refl _) (by rw [hz2]; omega) (by omega)
  rw [Int.toNat_natCast, hz1, made_zeros] at h
  exact h
theorem row_made (w : World) (n B : Nat) (hB : B ≤ w.heap.size) (hn : n ≤ 1048576) : Row 3 .i64 B (w.alloc (.cells (Array.replicate n (Value.int .i64 0)) 3)) (.slice (some ⟨w.heap.size, 0, none⟩) n n) (List.replicate n 0) :=
  (Row.made w n (by unfold maxLen; omega)).mono hB
/-- Two new rows of zeros. -/
def Two (n B : Nat) (w : World) (x y : Value) (wx : World) : Prop := ∃ g1 g2, x = .slice (some ⟨g1, 0, none⟩) n n ∧ y = .slice (some ⟨g2, 0, none⟩) n n ∧ g1 ≠ g2 ∧ Row 3 .i64 B wx x (List.replicate n 0) ∧ Row 3 .i64 B wx y (List.replicate n 0) ∧ Below B w wx
theorem two_a (w w1 : World) (n B : Nat) (h : Below B w w1) (hB : B ≤ w1.heap.size) (hn : n ≤ 1048576) : Two n B w (.slice (some ⟨w1.heap.size, 0, none⟩) n n) (.slice (some ⟨w1.heap.size + 1, 0, none⟩) n n) (((w1.alloc (.cells (Array.replicate n (Value.int .i64 0)) 3))).alloc (.cells (Array.replicate n (Value.int .i64 0)) 3)) := by
  refine ⟨_, _, rfl, rfl, by omega, (row_made w1 n B hB hn).al _, ?_, (h.alloc hB _).alloc (by simp; omega) _⟩
  have := row_made (w1.alloc (.cells (Array.replicate n (Value.int .i64 0)) 3)) n B (by simp; omega) hn
  simpa using this
theorem Two.swap {n B : Nat} {w : World} {x y : Value} {wx : World} (h : Two n B w x y wx) : Two n B w y x wx := by
  obtain ⟨g1, g2, a, b, c, d, e, f⟩ := h
  exact ⟨g2, g1, b, a, Ne.symm c, e, d, f⟩
theorem Two.drew {n B : Nat} {w : World} {x y : Value} {wx : World} (h : Two n B w x y wx) : Two n B w x y wx.drew := by
  obtain ⟨g1, g2, a, b, c, d, e, f⟩ := h
  exact ⟨g1, g2, a, b, c, d.dr, e.dr, f.drew⟩

set_option maxRecDepth 100000 in
set_option maxHeartbeats 2000000 in
theorem rsplit_pos (b : Nat) (v : Value) (l : List Nat) (w : World) (h : IntsAt w v (ofN l)) (hn : 0 < l.length) (h64 : l.length ≤ 64) (hb : b ≤ 17592186044416) (hl : ∀ x ∈ l, x ≤ 17592186044416) (hs0 : 0 < W l) :
    Calls Try.prog 13 #[.int .i64 (b : Int), v] w (Out2 (sg (b : Int) (parts b l), 0) w) := by
  obtain ⟨n, hnn⟩ : ∃ n, l.length = n := ⟨_, rfl⟩
  obtain ⟨s, hs⟩ : ∃ s, W l = s := ⟨_, rfl⟩
  have hokl : ∀ x ∈ ofN l, okW x := ofN_ok l hl
  have hsb : s ≤ 1125899906842624 := by
    rw [← hs]; have := S_wt_le l l.length (Nat.le_refl _) _ hl; unfold W; omega
  have hV : wtsV (ofN l) = ((s : Int), 0) := by unfold wtsV; rw [if_pos hokl, toNat_ofN, hs]
  have c1 := Lib.hid (weights_ref v (ofN l) w h (by rw [ofN_length]; exact h64) _ _ hV)
  have c2 := Lib.hid (rvalid_var (b : Int) true (by rw [decide_eq_true]; unfold okI; omega))
  have hI := Lib.hid h
  obtain ⟨p, c, rfl, hp⟩ := h
  rw [ofN_length] at *
  rw [hnn] at hn h64 hp c1 ⊢
  rw [hs] at hs0
  have hnb : ((n : Int) == 0) = false := by simp; omega
  have hsb0 : ((s : Int) == 0) = false := by simp; omega
  have hp' := Lib.hid hp
  have hl' := Lib.hid hl
  have hnn' := Lib.hid hnn
  have hs' := Lib.hid hs
  clear hp hl hnn hs hokl hV
  go_enter Try.func13, Try.ntmps13
  go_wp2_with fail
  refine c1.out.mono ?_; rintro e w' ⟨rfl, nd, rfl⟩
  go_wp2_with fail
  refine (c2.out _).mono ?_; rintro e w' ⟨rfl, rfl⟩
  go_upto_region 13 with fail
  have hmk := run_zeros n (by omega)
  go_cut [9, 10] (fun x y wx => Two n w.heap.size w x y wx)
  case first =>
    go_region
    all_goals
      clear hmk
      go_wp2_with fail
      go_meet
      case rel =>
        have h2 := two_a w (w.drewN (nd + 1)) n w.heap.size (below_drewN (Below.refl _ _) _) (by simp) (by omega)
        first | exact h2 | exact h2.swap
  case rest =>
    obtain ⟨g1, g2, rfl, rfl, hgg, hP, hR, hB⟩ := hcut
    rw [show List.replicate n (0 : Int) = ofN (stL (qu b l) n 0) by rw [stL_zero]] at hP
    rw [show List.replicate n (0 : Int) = ofN (stL (re b l) n 0) by rw [stL_zero]] at hR
    have hg1 := (row_at hP hn).1
    have hg2 := (row_at hR hn).1
    have hP' := Lib.hid hP
    have hR' := Lib.hid hR
    have hB' := Lib.hid hB
    clear hP hR hB hmk
    go_upto_block 0 with fail
    go_cut [11] (fun x wx => ∃ y : Nat, x = .int .i64 y ∧ Hid (lef b l = y) ∧ Hid (Row 3 .i64 w.heap.size wx (.slice (some ⟨g1, 0, none⟩) n n) (ofN (stL (qu b l) n n))) ∧ Hid (Row 3 .i64 w.heap.size wx (.slice (some ⟨g2, 0, none⟩) n n) (ofN (stL (re b l) n n))) ∧ Hid (Below w.heap.size w wx))
    case first =>
      go_wp2_with fail
      go_loopw [11, 12] (fun x i wr => ∃ k : Nat, k ≤ n ∧ i = .int .i64 k ∧ (∃ y : Nat, x = .int .i64 y ∧ Hid (y + S (qu b l) k = b)) ∧ Hid (Row 3 .i64 w.heap.size wr (.slice (some ⟨g1, 0, none⟩) n n) (ofN (stL (qu b l) n k))) ∧ Hid (Row 3 .i64 w.heap.size wr (.slice (some ⟨g2, 0, none⟩) n n) (ofN (stL (re b l) n k))) ∧ Hid (Below w.heap.size w wr)) (fun _ i _ => n - (RowKit.intOf i).toNat)
      case atStart => exact ⟨0, Nat.zero_le _, rfl, ⟨b, rfl, Lib.hid (by simp [S])⟩, hP', hR', hB'⟩
      case round =>
        obtain ⟨k, hk, rfl, ⟨y, rfl, hy⟩, hP, hR, hB⟩ := hrel
        have hyb : y ≤ b := by have := hy.out; omega
        have hyb2 : (y : Int) ≤ 17592186044416 := by omega
        by_cases hlt : k < n
        · obtain ⟨bb, off, rfl, hc⟩ := hp'.out (by omega)
          have hlb : bb < w.heap.size := World.block_lt_of_cell? _ _ (hc k hlt)
          have hck : wr.cell? ⟨bb, off + k, none⟩ = some (.int .i64 (wt l k)) := by
            rw [hB.out.cell (p := ⟨bb, off + k, none⟩) hlb, hc k hlt, ofN_getD]
          have bx := S_wt_lt l k (by rw [hnn'.out]; exact hlt) _ hl'.out
          have hq : b * wt l k / s = qu b l k := by rw [← hs'.out]; rfl
          have hr : b * wt l k % s = re b l k := by rw [← hs'.out]; rfl
          have bq : qu b l k ≤ b := qu_le b l k (by rw [hnn'.out]; exact hlt)
          have hd := fun w => divide_yes b (wt l k) s (qu b l k) (re b l k) (Lib.hid hq) (Lib.hid hr) hb bx hs0 (by omega) w (by rw [hq]; omega)
          have hd' := Lib.hid hd
          have cc1 := row_cell hP.out k hlt
          have f1 := hP.out.frozen k
          have cc2 := row_cell hR.out k hlt
          have f2 := hR.out.frozen k
          have s1 : ∀ w', Row 3 .i64 w.heap.size w' (.slice (some ⟨g1, 0, none⟩) n n) (ofN (stL (qu b l) n k)) → Row 3 .i64 w.heap.size (w'.setCell ⟨g1, k, none⟩ (.int .i64 (qu b l k))) (.slice (some ⟨g1, 0, none⟩) n n) (ofN (stL (qu b l) n (k + 1))) := fun w' h => by
            rw [← stL_set]; exact row_set h k (qu b l k)
          have s2 : ∀ w', Row 3 .i64 w.heap.size w' (.slice (some ⟨g2, 0, none⟩) n n) (ofN (stL (re b l) n k)) → Row 3 .i64 w.heap.size (w'.setCell ⟨g2, k, none⟩ (.int .i64 (re b l k))) (.slice (some ⟨g2, 0, none⟩) n n) (ofN (stL (re b l) n (k + 1))) := fun w' h => by
            rw [← stL_set]; exact row_set h k (re b l k)
          have s1' := Lib.hid s1
          have s2' := Lib.hid s2
          have hst : y - qu b l k + S (qu b l) (k + 1) = b ∧ qu b l k ≤ y := by
            have h1 := hy.out
            have h2 : S (qu b l) (k + 1) ≤ S (qu b l) l.length := S_le_of_le (by rw [hnn'.out]; omega)
            have h3 := sum_q b l (by rw [hs'.out]; exact hs0)
            simp only [S] at h2 ⊢
            omega
          obtain ⟨hst1, hst2⟩ := hst
          have hst' := Lib.hid hst1
          have hst2' : (qu b l k : Int) ≤ (y : Int) := by omega
          have hsub : (y : Int) - (qu b l k : Int) = ((y - qu b l k : Nat) : Int) := by omega
          have hsub' := Lib.hid hsub
          clear hc s1 s2 hd hq hr hlb hst1 hsub hst2
          generalize wt l k = x at *
          generalize qu b l k = q at *
          generalize re b l k = r at *
          go_wp2_with fail
          refine (hd'.out _).mono ?_; rintro e w' ⟨rfl, nd2, rfl⟩
          go_wp2_with fail
          go_roundw
          case rel => exact ⟨k + 1, by omega, by go_num, ⟨y - q, by rw [hsub'.out], hst'⟩, Lib.hid ((s1'.out _ (hP.out.drewN nd2)).other (by simp [Value.ownBlock]; omega) _), Lib.hid (s2'.out _ ((hR.out.drewN nd2).other (by simp [Value.ownBlock]; omega) _)), Lib.hid (((below_drewN hB.out nd2).setCell hg1 _).setCell (by simp; omega) _)⟩
          case measure => simp [RowKit.intOf]; omega
        · obtain rfl : k = n := by omega
          have hle : lef b l = y := by
            have h1 := hy.out
            unfold lef; rw [hnn'.out]; omega
          have hle' := Lib.hid hle
          clear hle
          go_wp2_with fail
          go_meet
          case rel => exact ⟨y, rfl, hle', hP, hR, hB⟩
    case rest =>
      obtain ⟨t, rfl, ht, hP, hR, hB⟩ := hcut
      rw [stL_full] at hP hR
      have hP2 : Row 3 .i64 w.heap.size wc (.slice (some ⟨g1, 0, none⟩) n n) (ofN (ptL b l 0)) := by rw [ptL_zero, hnn'.out]; exact hP.out
      have hR2 : Row 3 .i64 w.heap.size wc (.slice (some ⟨g2, 0, none⟩) n n) (rsL b l 0) := by rw [rs_zero, hnn'.out]; exact hR.out
      have htn : t ≤ n := by
        have := lef_le b l (by rw [hs'.out]; exact hs0)
        rw [ht.out, hnn'.out] at this; exact this
      have hP2' := Lib.hid hP2
      have hR2' := Lib.hid hR2
      clear hP hR hP2 hR2
      go_upto_block 2 with fail
      go_cut [11] (fun x wx => Hid (Row 3 .i64 w.heap.size wx (.slice (some ⟨g1, 0, none⟩) n n) (ofN (parts b l))) ∧ Hid (Below w.heap.size w wx))
      case first =>
        go_wp2_with fail
        go_loopw [11] (fun x wr => ∃ j u : Nat, x = .int .i64 j ∧ u + j = t ∧ Hid (Row 3 .i64 w.heap.size wr (.slice (some ⟨g1, 0, none⟩) n n) (ofN (ptL b l u))) ∧ Hid (Row 3 .i64 w.heap.size wr (.slice (some ⟨g2, 0, none⟩) n n) (rsL b l u)) ∧ Hid (Below w.heap.size w wr)) (fun x _ => (RowKit.intOf x).toNat)
        case atStart => exact ⟨t, 0, rfl, by omega, hP2', hR2', hB⟩
        case round =>
          obtain ⟨j, u, rfl, hju, hP3, hR3, hB3⟩ := hrel
          by_cases hj : 0 < j
          · have hun : u < n := by omega
            have hRl : ∀ i, i < n → wr.cell? ⟨g2, i, none⟩ = some (.int .i64 (rs b l u i)) := fun i hi => by
              obtain ⟨q2, cc2, h1, h2⟩ := hR3.out.shape
              simp only [Value.slice.injEq, rsL_length, hnn'.out] at h1 h2
              obtain ⟨g', h3, _, _, hcell⟩ := h2 hn
              rw [← h1.1] at h3; cases h3
              rw [hcell i hi, rsL_at _ _ _ _ (by rw [hnn'.out]; exact hi)]
            have hRl' := Lib.hid hRl
            have hrb := Lib.hid (fun i => rs_bd b l u i (by rw [hs'.out]; exact hs0))
            have hju2 : (j : Int) ≤ 64 := by omega
            clear hRl
            go_wp2_with fail
            go_loopw [13, 14] (fun x i wi => ∃ k bb : Nat, 1 ≤ k ∧ k ≤ n ∧ i = .int .i64 k ∧ x = .int .i64 bb ∧ bb < n ∧ Hid (Best b l u k bb) ∧ Hid (Dr wr wi)) (fun _ i _ => n - (RowKit.intOf i).toNat)
            case atStart => exact ⟨1, 0, by omega, by omega, rfl, rfl, hn, Lib.hid (best_one b l u), Lib.hid (Dr.refl _)⟩
            case round =>
              obtain ⟨k, bb, hk0, hk, rfl, rfl, hbn, hBest, hDr⟩ := hrel
              obtain ⟨nd3, rfl⟩ := hDr.out
              by_cases hlt : k < n
              · have d1 := hRl'.out k hlt
                have d2 := hRl'.out bb hbn
                have bn := Lib.hid (fun h => best_new hBest.out h)
                have bo := Lib.hid (fun h => best_old hBest.out h)
                have l1 : (k : Int) < (n : Int) := by omega
                have l2 : (bb : Int) < (n : Int) := by omega
                generalize rs b l u k = x at *
                generalize rs b l u bb = y at *
                by_cases hxy : y < x
                · have t1 : decide (y < x) = true := by simp; omega
                  have hb2 := Lib.hid (bn.out hxy)
                  clear hxy
                  go_wp2_with fail
                  go_quiet (fail)
                  go_wp2_with fail
                  go_roundw
                  case rel => exact ⟨k + 1, k, by omega, by omega, by go_num, rfl, hlt, hb2, Lib.hid ⟨_, rfl⟩⟩
                  case measure => simp [RowKit.intOf]; omega
                · have t1 : decide (y < x) = false := by simp; omega
                  have hb2 := Lib.hid (bo.out hxy)
                  clear hxy
                  go_wp2_with fail
                  go_quiet (fail)
                  go_wp2_with fail
                  go_roundw
                  case rel => exact ⟨k + 1, bb, by omega, by omega, by go_num, rfl, hbn, hb2, Lib.hid ⟨_, rfl⟩⟩
                  case measure => simp [RowKit.intOf]; omega
              · obtain rfl : k = n := by omega
                have hbl : bb < l.length := by rw [hnn'.out]; exact hbn
                have hrk : rk (re b l) l.length bb = u := best_rank (by rw [hnn'.out]; exact hun) (by rw [hnn'.out]; exact hBest.out)
                have e1 := ptL_set2 b l u bb hbl hrk
                have e2 := rsL_set b l u bb hbl hrk
                have d1 := row_cell hP3.out bb hbn
                have f1 := hP3.out.frozen bb
                have d2 := hRl'.out bb hbn
                have f2 := hR3.out.frozen bb
                have s1 : ∀ w', Row 3 .i64 w.heap.size w' (.slice (some ⟨g1, 0, none⟩) k k) (ofN (ptL b l u)) → Row 3 .i64 w.heap.size (w'.setCell ⟨g1, bb, none⟩ (.int .i64 ((wt (ptL b l u) bb : Int) + 1))) (.slice (some ⟨g1, 0, none⟩) k k) (ofN (ptL b l (u + 1))) := fun w' h => by
                  have := row_set h bb (wt (ptL b l u) bb + 1)
                  rw [e1] at this; simpa using this
                have s2 : ∀ w', Row 3 .i64 w.heap.size w' (.slice (some ⟨g2, 0, none⟩) k k) (rsL b l u) → Row 3 .i64 w.heap.size (w'.setCell ⟨g2, bb, none⟩ (.int .i64 (-1))) (.slice (some ⟨g2, 0, none⟩) k k) (rsL b l (u + 1)) := fun w' h => by
                  rw [← e2]; exact h.store bb (-1)
                have s1' := Lib.hid s1
                have s2' := Lib.hid s2
                have hz : wt (ptL b l u) bb ≤ 17592186044417 := by
                  have h1 : wt (ptL b l u) bb = pt b l u bb := wt_map_range _ _ _ hbl
                  have h2 := qu_le b l bb hbl
                  rw [h1]; unfold pt; split <;> omega
                have l2 : (bb : Int) < (k : Int) := by omega
                have hgg' : g1 ≠ g2 := hgg
                have d2' : ∀ v, ((wr.drewN nd3).setCell ⟨g1, bb, none⟩ v).cell? ⟨g2, bb, none⟩ = some (.int .i64 (rs b l u bb)) := fun v => by
                  rw [World.cell?_setCell_other _ _ _ _ (by intro e; simp only [Addr.mk.injEq] at e; exact hgg e.1)]; exact d2
                have d2'' := Lib.hid d2'
                clear s1 s2 e1 e2 hrk hbl d2'
                generalize wt (ptL b l u) bb = z at *
                generalize rs b l u bb = y at *
                go_wp2_with fail
                go_roundw
                case rel => exact ⟨j - 1, u + 1, by rw [show ((j - 1 : Nat) : Int) = (j : Int) - 1 by omega], by omega, Lib.hid ((s1'.out _ (hP3.out.drewN nd3)).other (by simp [Value.ownBlock]; omega) _), Lib.hid (s2'.out _ ((hR3.out.drewN nd3).other (by simp [Value.ownBlock]; omega) _)), Lib.hid (((below_drewN hB3.out nd3).setCell hg1 _).setCell hg2 _)⟩
                case measure => simp [RowKit.intOf]; omega
          · obtain rfl : j = 0 := by omega
            obtain rfl : u = t := by omega
            have e : ptL b l u = parts b l := by rw [← ht.out]; rfl
            rw [e] at hP3
            clear e hju
            go_wp2_with fail
            go_meet
            case rel => exact ⟨hP3, hB3⟩
      case rest =>
        obtain ⟨hP4, hB4⟩ := hcut
        have hpl : (parts b l).length = n := by simp [parts, hnn'.out]
        have hfin : Out2 (sg (b : Int) (parts b l), 0) w (.returned (.tuple #[.slice (some ⟨g1, 0, none⟩) n n, .int .i64 0])) wc := ⟨_, rfl, by rw [sg_pos]; exact hP4.out, hB4.out⟩
        have hfin' := Lib.hid hfin
        clear hfin hpl
        go_wp2_with fail
        go_ret2
        exact hfin'.out
end Go.Proofs.Ytnjghcncibogeaa.Spl
