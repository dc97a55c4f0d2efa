/- CalendarPeriods' walk. -/
import Derived.Test.YtlhgjhdeidhibaaDoorCalOv
import Derived.Test.YtlhgjhdeidhibaaDoorDeckHour
namespace Go.Proofs.YtlhgjhdeidhibaaDoor.Cal
open Go.RowKit Go.Lib Go.Proofs.YtlhgjhdeidhibaaDoor.Bas Go.Proofs.YtlhgjhdeidhibaaDoor.Dk
set_option linter.unusedVariables false

theorem heldK {W0 wk w' : World} {p : Nat} {f t : Int} (D0 : TwoAt W0 p f t) (h : wk.cell? ⟨p, 0, none⟩ = some (.int .i64 f) ∧ wk.cell? ⟨p, 1, none⟩ = some (.int .i64 t) ∧ Below W0.heap.size W0 wk) (hB : Below wk.heap.size wk w') : w'.cell? ⟨p, 0, none⟩ = some (.int .i64 f) ∧ w'.cell? ⟨p, 1, none⟩ = some (.int .i64 t) ∧ Below W0.heap.size W0 w' := by
  have b := trans_at h.2.2 hB
  have D := D0.keep b
  exact ⟨D.2.1, D.2.2.1, b⟩

/-- The overlap of two periods has just the hours of both. -/
theorem ov_both (f t g u h : Int) (h1 : pvB f t = true) (h2 : pvB g u = true) : coB (ovV f t g u).1 (ovV f t g u).2 h = (coB f t h && coB g u h) ∧ (coB f t h = true → coB g u h = true → ovB f t g u = true) ∧ pvB (ovV f t g u).1 (ovV f t g u).2 = ovB f t g u := by
  have a := (pvB_iff _ _).1 h1
  have b := (pvB_iff _ _).1 h2
  have e : ovB f t g u = decide (max f g < min t u) := by unfold ovB; rw [h1, h2]; rfl
  by_cases hm : max f g < min t u
  · rw [decide_eq_true hm] at e
    unfold ovV
    rw [e, if_pos rfl]
    refine ⟨?_, fun _ _ => rfl, by rw [ov_pv f t g u h1 h2]; exact decide_eq_true hm⟩
    rw [Bool.eq_iff_iff, Bool.and_eq_true, coB_iff, coB_iff, coB_iff]
    show (0 ≤ max f g ∧ max f g < min t u ∧ min t u ≤ 876600) ∧ max f g ≤ h ∧ h < min t u ↔ _
    omega
  · rw [decide_eq_false hm] at e
    unfold ovV
    rw [e]
    have n : ¬ (coB f t h = true ∧ coB g u h = true) := by rw [coB_iff, coB_iff]; omega
    refine ⟨?_, fun x y => absurd ⟨x, y⟩ n, by rfl⟩
    rw [Bool.eq_iff_iff, Bool.and_eq_true]
    exact ⟨fun x => by have := (coB_iff _ _ _).1 x; simp at this, fun x => absurd x n⟩

set_option maxHeartbeats 8000000 in
theorem periodsW (f t g u : Int) (v : Value) (l : List Int) (n : Int) (w : World) (hT : Tab w) (hf : (Lit.int .i64 f).wf = true) (ht : (Lit.int .i64 t).wf = true) (hg : (Lit.int .i64 g).wf = true) (hu : (Lit.int .i64 u).wf = true)
    (hI : IntsAt w v l) (hl : l.length ≤ 9223372036854775807) (hw : ∀ x ∈ l, (Lit.int .i64 x).wf = true) (hn : (Lit.int .i64 n).wf = true) :
    Calls Tryd.prog 10 #[.agg #[.int .i64 f, .int .i64 t], .agg #[.int .i64 g, .int .i64 u], v, .int .i64 n] w (BoolBe true w) := by
  have hTT := Lib.hid hT
  have hII := Lib.hid hI
  have hWW := Lib.hid (fun x hx => Go.bounds_i64 (hw x hx))
  have hLL := Lib.hid hl
  have c1 := Lib.hid (fun w => valid_any f t w _ rfl)
  have c2 := Lib.hid (fun w => rvalid_any f t w _ rfl)
  have c3 := Lib.hid (fun w => contains_any f t n w _ rfl)
  have c4 := Lib.hid (fun w => rcontains_any f t n w _ rfl)
  have c5 := Lib.hid (fun w => overlap_any f t g u w)
  have c6 := Lib.hid (fun w => roverlap_any f t g u w)
  generalize pvB f t = B1 at *
  generalize coB f t n = B2 at *
  generalize ovB f t g u = B3 at *
  generalize ovV f t g u = V3 at *
  obtain ⟨o1, o2⟩ := V3
  clear hf ht hg hu hI hl hw hn hT
  have b0 := trans_at (alloc1 w (.cells #[.int .i64 f, .int .i64 t] 46)) (alloc1 _ (.cells #[.int .i64 g, .int .i64 u] 46))
  have z1 : (w.alloc (.cells #[.int .i64 f, .int .i64 t] 46)).heap.size = w.heap.size + 1 := by simp
  have D1 := (TwoAt.new w f t).keep (alloc1 _ (.cells #[.int .i64 g, .int .i64 u] 46))
  have D2 := TwoAt.new (w.alloc (.cells #[.int .i64 f, .int .i64 t] 46)) g u
  rw [z1] at D2
  have b0' := Lib.hid b0
  have D1' := Lib.hid D1
  have D2' := Lib.hid D2
  clear b0 z1 D1 D2
  go_enter Tryd.func10, Tryd.ntmps10
  go_upto_region 1 with (fail)
  generalize (w.alloc (.cells #[.int .i64 f, .int .i64 t] 46)).alloc (.cells #[.int .i64 g, .int .i64 u] 46) = W0 at b0' D1' D2' ⊢
  generalize w.heap.size + 1 = p2 at D2' ⊢
  generalize hp : w.heap.size = p1 at D1' ⊢
  clear hp
  go_region_held3 (fun w' => w'.cell? ⟨p1, 0, none⟩ = some (.int .i64 f) ∧ w'.cell? ⟨p1, 1, none⟩ = some (.int .i64 t) ∧ Below W0.heap.size W0 w')
    (first | exact ⟨D1'.out.2.1, D1'.out.2.2.1, below_drewN (Below.refl _ _) 1⟩ | exact heldK D1'.out (by assumption) hB)
    (first
      | (go_at_call 26; (with_reducible refine (c1.out _).mono ?_); rintro e w' ⟨rfl, hB⟩)
      | (go_at_call 27; (with_reducible refine (c2.out _).mono ?_); rintro e w' ⟨rfl, hB⟩)
      | (go_at_call 28; (with_reducible refine (c3.out _).mono ?_); rintro e w' ⟨rfl, hB⟩)
      | (go_at_call 29; (with_reducible refine (c4.out _).mono ?_); rintro e w' ⟨rfl, hB⟩))
  rename_i hh
  have b1 := Lib.hid (trans_at b0'.out hh.2.2)
  have E1 := Lib.hid (D1'.out.keep hh.2.2)
  have E2 := Lib.hid (D2'.out.keep hh.2.2)
  clear b0' D1' D2' hh c1 c2 c3 c4
  obtain ⟨-, k0, k1, -⟩ := E1.out
  obtain ⟨-, j0, j1, -⟩ := E2.out
  go_wp2_with fail
  refine (c5.out _).mono ?_; rintro e W2 ⟨rfl, hB⟩
  have b2 := Lib.hid (trans_at b1.out hB)
  have F1 := Lib.hid (E1.out.keep hB)
  have F2 := Lib.hid (E2.out.keep hB)
  clear hB k0 k1 j0 j1 b1 E1 E2
  go_upto_region 4 with (fail)
  have b3 := Lib.hid (trans_at b2.out (alloc1 W2 (.cells #[.int .i64 o1, .int .i64 o2] 46)))
  have E1 := Lib.hid (F1.out.keep (alloc1 W2 (.cells #[.int .i64 o1, .int .i64 o2] 46)))
  have E2 := Lib.hid (F2.out.keep (alloc1 W2 (.cells #[.int .i64 o1, .int .i64 o2] 46)))
  have X3 := Lib.hid (TwoAt.new W2 o1 o2)
  clear b2 F1 F2
  generalize hp : W2.heap.size = p3 at X3 ⊢
  generalize W2.alloc (.cells #[.int .i64 o1, .int .i64 o2] 46) = W3 at b3 E1 E2 X3 ⊢
  clear hp
  obtain ⟨-, k0, k1, -⟩ := E1.out
  obtain ⟨-, j0, j1, -⟩ := E2.out
  go_wp2_with fail
  refine (c6.out _).mono ?_; rintro e W4 ⟨rfl, hB⟩
  have b4 := Lib.hid (trans_at b3.out hB)
  have X4 := Lib.hid (X3.out.keep hB)
  clear hB k0 k1 j0 j1 b3 E1 E2 X3 c5 c6
  go_upto_region 5 with (fail)
  have b5 := Lib.hid (trans_at b4.out (alloc1 W4 (.cells #[.int .i64 o1, .int .i64 o2] 46)))
  have X5 := Lib.hid (X4.out.keep (alloc1 W4 (.cells #[.int .i64 o1, .int .i64 o2] 46)))
  have Y5 := Lib.hid (TwoAt.new W4 o1 o2)
  clear b4 X4
  generalize hp : W4.heap.size = p4 at Y5 ⊢
  generalize W4.alloc (.cells #[.int .i64 o1, .int .i64 o2] 46) = W5 at b5 X5 Y5 ⊢
  clear hp
  obtain ⟨-, k0, k1, -⟩ := X5.out
  obtain ⟨-, j0, j1, -⟩ := Y5.out
  go_wp2_with fail
  refine (new_any v l _ (hII.out.below b5.out) hLL.out hWW.out).mono ?_; rintro e W6 ⟨d, rfl, hD, hB⟩
  have b6 := Lib.hid (trans_at b5.out hB)
  have hdge := Lib.hid (Nat.le_trans b5.out.size hD.ge)
  have hD6 := Lib.hid hD
  clear hB hD k0 k1 j0 j1 b5 X5 Y5
  go_wp2_with fail
  refine (period_any _ d v l _ hD6.out).mono ?_; rintro e W7 ⟨f1, t1, q1, q2, q3, rfl, hD, hK⟩
  have hD7 := Lib.hid hD
  have b7 := Lib.hid (b6.out.trans (hK.below hdge.out b6.out.size))
  clear hD hK b6 hD6
  go_wp2_with fail
  refine (period_any _ d v l _ hD7.out).mono ?_; rintro e W8 ⟨g1, u1, r1, r2, r3, rfl, hD, hK⟩
  have hD8 := Lib.hid hD
  have b8 := Lib.hid (b7.out.trans (hK.below hdge.out b7.out.size))
  clear hD hK b7 hD7
  go_wp2_with fail
  refine (dhour_any _ d v l _ hD8.out).mono ?_; rintro e W9 ⟨H, hH, rfl, hD, hK⟩
  have b9 := Lib.hid (b8.out.trans (hK.below hdge.out b8.out.size))
  clear hD hK b8 hD8
  go_upto_region 9 with (fail)
  have z1 : (W9.alloc (.cells #[.int .i64 f1, .int .i64 t1] 46)).heap.size = W9.heap.size + 1 := by simp
  have C1 := (TwoAt.new W9 f1 t1).keep (alloc1 _ (.cells #[.int .i64 g1, .int .i64 u1] 46))
  have C2 := TwoAt.new (W9.alloc (.cells #[.int .i64 f1, .int .i64 t1] 46)) g1 u1
  rw [z1] at C2
  have A10 := Lib.hid C1
  have B10 := Lib.hid C2
  have b10 := Lib.hid (trans_at (trans_at b9.out (alloc1 W9 (.cells #[.int .i64 f1, .int .i64 t1] 46))) (alloc1 _ (.cells #[.int .i64 g1, .int .i64 u1] 46)))
  clear z1 C1 C2 b9
  generalize (W9.alloc (.cells #[.int .i64 f1, .int .i64 t1] 46)).alloc (.cells #[.int .i64 g1, .int .i64 u1] 46) = W10 at b10 A10 B10 ⊢
  generalize W9.heap.size + 1 = p6 at B10 ⊢
  generalize hp : W9.heap.size = p5 at A10 ⊢
  clear hp
  have law := ov_both f1 t1 g1 u1 (H : Int) ((pvB_iff _ _).2 ⟨q1, q2, q3⟩) ((pvB_iff _ _).2 ⟨r1, r2, r3⟩)
  have c7 := Lib.hid (fun w => overlap_any f1 t1 g1 u1 w)
  have ca := Lib.hid (fun w => contains_any f1 t1 (H : Int) w _ rfl)
  have cb := Lib.hid (fun w => contains_any g1 u1 (H : Int) w _ rfl)
  have cz := Lib.hid (fun w => contains_any (ovV f1 t1 g1 u1).1 (ovV f1 t1 g1 u1).2 (H : Int) w _ rfl)
  have cv := Lib.hid (fun w => valid_any (ovV f1 t1 g1 u1).1 (ovV f1 t1 g1 u1).2 w _ rfl)
  have c8 := Lib.hid awake_any
  rw [law.1] at cz
  rw [law.2.2] at cv
  have law2 := law.2.1
  clear law q1 q2 q3 r1 r2 r3 hH
  generalize coB f1 t1 (H : Int) = a at *
  generalize coB g1 u1 (H : Int) = b at *
  generalize ovB f1 t1 g1 u1 = m at *
  generalize ovV f1 t1 g1 u1 = V at *
  obtain ⟨z1, z2⟩ := V
  have law3 := Lib.hid law2
  clear law2
  obtain ⟨-, k0, k1, -⟩ := A10.out
  obtain ⟨-, j0, j1, -⟩ := B10.out
  go_wp2_with fail
  refine (c7.out _).mono ?_; rintro e W11 ⟨rfl, hB⟩
  have b11 := Lib.hid (trans_at b10.out hB)
  have A11 := Lib.hid (A10.out.keep hB)
  have B11 := Lib.hid (B10.out.keep hB)
  clear hB k0 k1 j0 j1 b10 A10 B10 c7
  go_upto_region 10 with (fail)
  have b12 := Lib.hid (trans_at b11.out (alloc1 W11 (.cells #[.int .i64 z1, .int .i64 z2] 46)))
  have A12 := Lib.hid (A11.out.keep (alloc1 W11 (.cells #[.int .i64 z1, .int .i64 z2] 46)))
  have B12 := Lib.hid (B11.out.keep (alloc1 W11 (.cells #[.int .i64 z1, .int .i64 z2] 46)))
  have Z12 := Lib.hid (TwoAt.new W11 z1 z2)
  clear b11 A11 B11
  generalize hp : W11.heap.size = p7 at Z12 ⊢
  generalize W11.alloc (.cells #[.int .i64 z1, .int .i64 z2] 46) = W12 at b12 A12 B12 Z12 ⊢
  clear hp
  obtain ⟨-, k0, k1, -⟩ := A12.out
  go_wp2_with fail
  refine (ca.out _).mono ?_; rintro e W13 ⟨rfl, hB⟩
  have b13 := Lib.hid (trans_at b12.out hB)
  have B13 := Lib.hid (B12.out.keep hB)
  have Z13 := Lib.hid (Z12.out.keep hB)
  clear hB k0 k1 b12 A12 B12 Z12 ca
  have hfin : ∀ (W W' : World) e, Below w.heap.size w W → BoolBe true W e W' → BoolBe true w e W' := fun W W' e x y => ⟨y.1, trans_at x y.2⟩
  have hfin' := Lib.hid hfin
  clear hfin
  cases a
  · obtain ⟨-, k0, k1, -⟩ := Z13.out
    go_wp2_with fail
    refine (cz.out _).mono ?_; rintro e W14 ⟨rfl, hB⟩
    have b14 := Lib.hid (trans_at b13.out hB)
    have Z14 := Lib.hid (Z13.out.keep hB)
    clear hB k0 k1 b13 B13 Z13 cz
    obtain ⟨-, k0, k1, -⟩ := Z14.out
    cases m
    all_goals
      go_wp2_with fail
      refine (cv.out _).mono ?_; rintro e W15 ⟨rfl, hB⟩
      have b15 := Lib.hid (trans_at b14.out hB)
      clear hB k0 k1 b14 Z14
      go_wp2_with fail
      refine (c8.out _ (hTT.out.keep b15.out)).mono ?_; rintro e W16 ⟨rfl, hB⟩
      have b16 := Lib.hid (trans_at b15.out hB)
      clear hB
      go_wp2_with fail
      go_ret
      exact ⟨rfl, b16.out⟩
  · obtain ⟨-, j0, j1, -⟩ := B13.out
    go_wp2_with fail
    refine (cb.out _).mono ?_; rintro e W14 ⟨rfl, hB⟩
    have b14 := Lib.hid (trans_at b13.out hB)
    have Z14 := Lib.hid (Z13.out.keep hB)
    clear hB j0 j1 b13 B13 Z13 cb
    obtain ⟨-, k0, k1, -⟩ := Z14.out
    go_wp2_with fail
    refine (cz.out _).mono ?_; rintro e W15 ⟨rfl, hB⟩
    have b15 := Lib.hid (trans_at b14.out hB)
    have Z15 := Lib.hid (Z14.out.keep hB)
    clear hB k0 k1 b14 Z14 cz
    obtain ⟨-, k0, k1, -⟩ := Z15.out
    cases b
    · cases m
      all_goals
        go_wp2_with fail
        refine (cv.out _).mono ?_; rintro e W16 ⟨rfl, hB⟩
        have b16 := Lib.hid (trans_at b15.out hB)
        clear hB k0 k1 b15 Z15
        go_wp2_with fail
        refine (c8.out _ (hTT.out.keep b16.out)).mono ?_; rintro e W17 ⟨rfl, hB⟩
        have b17 := Lib.hid (trans_at b16.out hB)
        clear hB
        go_wp2_with fail
        go_ret
        exact ⟨rfl, b17.out⟩
    · obtain rfl : m = true := by first | exact law3.out rfl rfl | simpa using law3.out
      go_wp2_with fail
      refine (cv.out _).mono ?_; rintro e W16 ⟨rfl, hB⟩
      have b16 := Lib.hid (trans_at b15.out hB)
      clear hB k0 k1 b15 Z15
      go_wp2_with fail
      refine (c8.out _ (hTT.out.keep b16.out)).mono ?_; rintro e W17 ⟨rfl, hB⟩
      have b17 := Lib.hid (trans_at b16.out hB)
      clear hB
      go_wp2_with fail
      go_ret
      exact ⟨rfl, b17.out⟩
end Go.Proofs.YtlhgjhdeidhibaaDoor.Cal
