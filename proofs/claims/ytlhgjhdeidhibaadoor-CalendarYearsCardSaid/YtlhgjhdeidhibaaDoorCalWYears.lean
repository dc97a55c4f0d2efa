/- CalendarYears' walk. -/
import Derived.Test.YtlhgjhdeidhibaaDoorCalRYears
import Derived.Test.YtlhgjhdeidhibaaDoorDeckHour
namespace Go.Proofs.YtlhgjhdeidhibaaDoor.Cal
open Go.RowKit Go.Lib Go.Proofs.YtlhgjhdeidhibaaDoor.Bas Go.Proofs.YtlhgjhdeidhibaaDoor.Dk
set_option linter.unusedVariables false

/-- The cells of the years in block g. -/
def YAt (W : World) (g : Nat) (f t : Int) (K : Nat) : Prop := g < W.heap.size ∧ ∀ i, i < K → W.cell? ⟨g, i * 2, none⟩ = some (.int .i64 (bd f t i)) ∧ W.cell? ⟨g, i * 2 + 1, none⟩ = some (.int .i64 (bd f t (i + 1)))
theorem YAt.keep {w w' : World} {g : Nat} {f t : Int} {K : Nat} (h : YAt w g f t K) (hb : Below w.heap.size w w') : YAt w' g f t K :=
  ⟨Nat.lt_of_lt_of_le h.1 hb.size, fun i hi => by rw [hb.cell (p := ⟨g, i * 2, none⟩) h.1, hb.cell (p := ⟨g, i * 2 + 1, none⟩) h.1]; exact h.2 i hi⟩
theorem yrow_shape {B : Nat} {w : World} {v : Value} {f t : Int} {K : Nat} (h : PRow B w v (yl f t K)) (hK : 0 < K) : ∃ g c, v = .slice (some ⟨g, 0, none⟩) K c ∧ YAt w g f t K := by
  obtain ⟨p, c, hv, hs⟩ := h.shape
  have hl := yl_length f t K
  obtain ⟨g, rfl, _, hlt, hc⟩ := hs (by omega)
  refine ⟨g, c, by rw [hv, hl], hlt, fun i hi => ?_⟩
  have := hc i (by omega)
  rw [yl_at f t K i (by omega)] at this
  exact this

set_option maxHeartbeats 8000000 in
theorem yearsW (f t : Int) (L1 : List (Int × Int)) (r1 : Int) (v : Value) (l : List Int) (w : World) (hTT : Hid (Tab w)) (hII : Hid (IntsAt w v l)) (hLL : Hid (l.length ≤ 9223372036854775807)) (hWW : Hid (∀ x ∈ l, -9223372036854775808 ≤ x ∧ x ≤ 9223372036854775807))
    (hL1 : L1.length ≤ 100) (c1 : Hid (∀ w, Tab w → Calls Tryd.prog 39 #[.agg #[.int .i64 f, .int .i64 t]] w (YrOut L1 r1 w))) (c2 : Hid (∀ w, Calls Tryd.prog 40 #[.agg #[.int .i64 f, .int .i64 t]] w (YrOut L1 r1 w))) :
    Calls Tryd.prog 12 #[.agg #[.int .i64 f, .int .i64 t], v] w (BoolBe true w) := by
  have b0 := Lib.hid (alloc1 w (.cells #[.int .i64 f, .int .i64 t] 46))
  have D0 := Lib.hid (TwoAt.new w f t)
  obtain ⟨n1, hn1⟩ : ∃ n1, L1.length = n1 := ⟨_, rfl⟩
  have hn1' := Lib.hid hn1
  rw [hn1] at hL1
  clear hn1
  go_enter Tryd.func12, Tryd.ntmps12
  go_upto_region 1 with (fail)
  generalize w.alloc (.cells #[.int .i64 f, .int .i64 t] 46) = W0 at b0 D0 ⊢
  generalize hp : w.heap.size = p1 at D0 ⊢
  clear hp
  obtain ⟨-, k0, k1, -⟩ := D0.out
  go_wp2_with fail
  refine (c1.out _ (hTT.out.keep b0.out)).mono ?_; rintro e W1 ⟨u1, rfl, hR, hB⟩
  have b1 := Lib.hid (trans_at b0.out hB)
  have D1 := Lib.hid (D0.out.keep hB)
  obtain ⟨q1, x1, rfl, -⟩ := hR.shape
  rw [hn1'.out] at hR ⊢
  clear hB hR k0 k1 b0 D0 c1
  obtain ⟨-, k0, k1, -⟩ := D1.out
  go_wp2_with fail
  refine (c2.out _).mono ?_; rintro e W2 ⟨u2, rfl, hR, hB⟩
  have b2 := Lib.hid (trans_at b1.out hB)
  obtain ⟨q2, x2, rfl, -⟩ := hR.shape
  rw [hn1'.out] at hR ⊢
  clear hB hR k0 k1 b1 D1 c2
  go_wp2_with fail
  refine (new_any v l _ (hII.out.below b2.out) hLL.out hWW.out).mono ?_; rintro e W6 ⟨d, rfl, hD, hB⟩
  have b6 := Lib.hid (trans_at b2.out hB)
  have hdge := Lib.hid (Nat.le_trans b2.out.size hD.ge)
  have hD6 := Lib.hid hD
  clear hB hD b2
  go_wp2_with fail
  refine (period_any _ d v l _ hD6.out).mono ?_; rintro e W7 ⟨F, T, g1, g2, g3, rfl, hD, hK⟩
  have b7 := Lib.hid (b6.out.trans (hK.below hdge.out b6.out.size))
  clear hD hK b6 hD6
  obtain ⟨K, hK0, hK100, hKe, hKl⟩ := years_count F T g1 g2 g3
  have c3 := Lib.hid (fun w hT => years_yes F T K w hT g1 g2 g3 hKe hKl hK100)
  have c4 := Lib.hid (fun w => ryears_yes F T K w g1 g2 g3 hK0 hKe hKl hK100)
  have hKe' := Lib.hid hKe
  have hKl' := Lib.hid hKl
  clear hKe hKl
  go_upto_region 6 with (fail)
  have b8 := Lib.hid (trans_at b7.out (alloc1 W7 (.cells #[.int .i64 F, .int .i64 T] 46)))
  have D8 := Lib.hid (TwoAt.new W7 F T)
  clear b7
  generalize W7.alloc (.cells #[.int .i64 F, .int .i64 T] 46) = W8 at b8 D8 ⊢
  generalize hp : W7.heap.size = p9 at D8 ⊢
  clear hp
  obtain ⟨-, k0, k1, -⟩ := D8.out
  go_wp2_with fail
  refine (c3.out _ (hTT.out.keep b8.out)).mono ?_; rintro e W9 ⟨u3, rfl, hR, hB⟩
  have b9 := Lib.hid (trans_at b8.out hB)
  have D9 := Lib.hid (D8.out.keep hB)
  obtain ⟨ga, x3, rfl, hY⟩ := yrow_shape hR hK0
  have Ya := Lib.hid hY
  clear hB hR hY k0 k1 b8 D8 c3
  obtain ⟨-, k0, k1, -⟩ := D9.out
  go_wp2_with fail
  refine (c4.out _).mono ?_; rintro e W10 ⟨u4, rfl, hR, hB⟩
  have b10 := Lib.hid (trans_at b9.out hB)
  have D10 := Lib.hid (D9.out.keep hB)
  have Ya2 := Lib.hid (Ya.out.keep hB)
  obtain ⟨gb, x4, rfl, hY⟩ := yrow_shape hR hK0
  have Yb := Lib.hid hY
  clear hB hR hY k0 k1 b9 D9 c4 Ya
  obtain ⟨-, k0, k1, -⟩ := D10.out
  have hKz : ((K : Int) == 0) = false := by simp; omega
  have z0 := Lib.hid (bd_zero F T g1 g2 g3)
  go_wp2_with fail
  go_loopw [10, 11] (fun x i wr => ∃ k : Nat, k ≤ K ∧ i = .int .i64 k ∧ x = .int .i64 (bd F T k) ∧ Hid (Dr W10 wr)) (fun _ i _ => K - (intOf i).toNat)
  case atStart => exact ⟨0, Nat.zero_le _, rfl, by rw [z0.out], Lib.hid (Dr.refl _)⟩
  case round =>
    obtain ⟨k, hk, rfl, rfl, hDr⟩ := hrel
    obtain ⟨nd, rfl⟩ := hDr.out
    clear k0 k1
    by_cases hlt : k < K
    · have ya := Ya2.out.2 k hlt
      have yb := Yb.out.2 k hlt
      have y0 : W10.cell? ⟨ga, k * 2, none⟩ = some (.int .i64 (bd F T k)) := ya.1
      have y1 : W10.cell? ⟨ga, k * 2 + 1, none⟩ = some (.int .i64 (bd F T (k + 1))) := ya.2
      have y2 : W10.cell? ⟨gb, k * 2, none⟩ = some (.int .i64 (bd F T k)) := yb.1
      have y3 : W10.cell? ⟨gb, k * 2 + 1, none⟩ = some (.int .i64 (bd F T (k + 1))) := yb.2
      have hbl := bd_lt F T k (hKl'.out k hlt)
      have t1 : decide (bd F T (k + 1) ≤ bd F T k) = false := by simp; omega
      have hX := Lib.hid (rfl : bd F T (k + 1) = bd F T (k + 1))
      clear ya yb
      generalize hx0 : bd F T (k + 1) = X at *
      generalize bd F T k = x at *
      have hx := Lib.hid hx0
      clear hx0 hX
      go_wp2_with fail
      go_quiet (fail)
      go_wp2_with fail
      go_roundw
      case rel => exact ⟨k + 1, by omega, by go_num, by rw [hx.out], Lib.hid ⟨_, rfl⟩⟩
      case measure => simp [intOf]; omega
    · obtain rfl : k = K := by omega
      clear hlt
      obtain ⟨-, k0, k1, -⟩ := D10.out
      rw [hKe'.out]
      have c8 := Lib.hid (awake_any (W10.drewN nd) ((hTT.out.keep b10.out).drewN nd))
      have b11 := Lib.hid (below_drewN b10.out nd)
      go_wp2_with fail
      refine c8.out.mono ?_; rintro e W11 ⟨rfl, hB⟩
      have b12 := Lib.hid (trans_at b11.out hB)
      clear hB
      go_wp2_with fail
      go_ret
      exact ⟨rfl, b12.out⟩

theorem years_walk (f t : Int) (v : Value) (l : List Int) (w : World) (hT : Tab w) (hf : (Lit.int .i64 f).wf = true) (ht : (Lit.int .i64 t).wf = true) (hI : IntsAt w v l) (hl : l.length ≤ 9223372036854775807) (hw : ∀ x ∈ l, (Lit.int .i64 x).wf = true) :
    Calls Tryd.prog 12 #[.agg #[.int .i64 f, .int .i64 t], v] w (BoolBe true w) := by
  have hW := Lib.hid (fun x hx => Go.bounds_i64 (hw x hx))
  cases hv : pvB f t
  · exact yearsW f t [] 12 v l w (Lib.hid hT) (Lib.hid hI) (Lib.hid hl) hW (by simp) (Lib.hid fun w _ => years_no f t w hv) (Lib.hid fun w => ryears_no f t w hv)
  · obtain ⟨a, b, c⟩ := (pvB_iff f t).1 hv
    obtain ⟨K, hK0, hK100, hKe, hKl⟩ := years_count f t a b c
    exact yearsW f t (yl f t K) 0 v l w (Lib.hid hT) (Lib.hid hI) (Lib.hid hl) hW (by rw [yl_length]; exact hK100) (Lib.hid fun w hT => years_yes f t K w hT a b c hKe hKl hK100) (Lib.hid fun w => ryears_yes f t K w a b c hK0 hKe hKl hK100)
end Go.Proofs.YtlhgjhdeidhibaaDoor.Cal
