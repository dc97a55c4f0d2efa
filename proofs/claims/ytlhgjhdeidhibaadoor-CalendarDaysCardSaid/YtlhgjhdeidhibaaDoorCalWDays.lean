/- CalendarDays' walk. -/
import Derived.Test.YtlhgjhdeidhibaaDoorCalDays
import Derived.Test.YtlhgjhdeidhibaaDoorCalWPer
namespace Go.Proofs.YtlhgjhdeidhibaaDoor.Cal
open Go.RowKit Go.Lib Go.Proofs.YtlhgjhdeidhibaaDoor.Bas Go.Proofs.YtlhgjhdeidhibaaDoor.Dk
set_option linter.unusedVariables false

theorem el_mono (f t a b : Int) (h : a ≤ b) (hv : pvB f t = true) : (elV f t a).1 ≤ (elV f t b).1 := by
  unfold elV; rw [if_pos hv, if_pos hv]
  show (min (max a f) t - f + 23) / 24 ≤ (min (max b f) t - f + 23) / 24
  have : min (max a f) t ≤ min (max b f) t := by omega
  omega
theorem el_val (f t a : Int) (hv : pvB f t = true) : (elV f t a).2 = (t - f + 23) / 24 := by unfold elV; rw [if_pos hv]
theorem el_to (f t : Int) (hv : pvB f t = true) : (elV f t t).1 = (t - f + 23) / 24 := by
  have hp := (pvB_iff f t).1 hv
  unfold elV; rw [if_pos hv]
  show (min (max t f) t - f + 23) / 24 = _
  rw [show min (max t f) t = t by omega]

set_option maxHeartbeats 8000000 in
theorem daysW (f t n : Int) (v : Value) (l : List Int) (w : World) (hT : Tab w) (hf : (Lit.int .i64 f).wf = true) (ht : (Lit.int .i64 t).wf = true) (hn : (Lit.int .i64 n).wf = true)
    (hI : IntsAt w v l) (hl : l.length ≤ 9223372036854775807) (hw : ∀ x ∈ l, (Lit.int .i64 x).wf = true) :
    Calls Tryd.prog 11 #[.agg #[.int .i64 f, .int .i64 t], .int .i64 n, v] w (BoolBe true w) := by
  have hTT := Lib.hid hT
  have hII := Lib.hid hI
  have hWW := Lib.hid (fun x hx => Go.bounds_i64 (hw x hx))
  have hLL := Lib.hid hl
  have c1 := Lib.hid (fun w => elapsed_any f t n w)
  have c2 := Lib.hid (fun w => relapsed_any f t n w)
  have c3 := Lib.hid (fun w => pdays_any f t w)
  have c4 := Lib.hid (fun w => rpdays_any f t w)
  generalize elV f t n = V at *
  obtain ⟨e1, e2⟩ := V
  generalize daV f t = V2 at *
  clear hf ht hI hl hw hn hT
  have b0 := Lib.hid (alloc1 w (.cells #[.int .i64 f, .int .i64 t] 46))
  have D0 := Lib.hid (TwoAt.new w f t)
  go_enter Tryd.func11, Tryd.ntmps11
  go_upto_region 1 with (fail)
  generalize w.alloc (.cells #[.int .i64 f, .int .i64 t] 46) = W0 at b0 D0 ⊢
  generalize hp : w.heap.size = p1 at D0 ⊢
  clear hp
  obtain ⟨-, k0, k1, -⟩ := D0.out
  go_wp2_with fail
  refine (c1.out _).mono ?_; rintro e W1 ⟨rfl, hB⟩
  have b1 := Lib.hid (trans_at b0.out hB)
  have D1 := Lib.hid (D0.out.keep hB)
  clear hB k0 k1 b0 D0 c1
  obtain ⟨-, k0, k1, -⟩ := D1.out
  go_wp2_with fail
  refine (c2.out _).mono ?_; rintro e W2 ⟨rfl, hB⟩
  have b2 := Lib.hid (trans_at b1.out hB)
  have D2 := Lib.hid (D1.out.keep hB)
  clear hB k0 k1 b1 D1 c2
  go_upto_region 3 with (fail)
  go_region_held3 (fun w' => w'.cell? ⟨p1, 0, none⟩ = some (.int .i64 f) ∧ w'.cell? ⟨p1, 1, none⟩ = some (.int .i64 t) ∧ Below W2.heap.size W2 w')
    (first | exact ⟨D2.out.2.1, D2.out.2.2.1, below_drewN (Below.refl _ _) 1⟩ | exact heldK D2.out (by assumption) hB)
    (first
      | (go_at_call 37; (with_reducible refine (c3.out _).mono ?_); rintro e w' ⟨rfl, hB⟩)
      | (go_at_call 38; (with_reducible refine (c4.out _).mono ?_); rintro e w' ⟨rfl, hB⟩))
  rename_i hh
  have b5 := Lib.hid (trans_at b2.out hh.2.2)
  clear b2 D2 hh c3 c4
  go_wp2_with fail
  refine (new_any v l _ (hII.out.below b5.out) hLL.out hWW.out).mono ?_; rintro e W6 ⟨d, rfl, hD, hB⟩
  have b6 := Lib.hid (trans_at b5.out hB)
  have hdge := Lib.hid (Nat.le_trans b5.out.size hD.ge)
  have hD6 := Lib.hid hD
  clear hB hD b5
  go_wp2_with fail
  refine (period_any _ d v l _ hD6.out).mono ?_; rintro e W7 ⟨f1, t1, q1, q2, q3, rfl, hD, hK⟩
  have hD7 := Lib.hid hD
  have b7 := Lib.hid (b6.out.trans (hK.below hdge.out b6.out.size))
  clear hD hK b6 hD6
  go_wp2_with fail
  refine (dhour_any _ d v l _ hD7.out).mono ?_; rintro e W8 ⟨h, hh, rfl, hD, hK⟩
  have hD8 := Lib.hid hD
  have b8 := Lib.hid (b7.out.trans (hK.below hdge.out b7.out.size))
  clear hD hK b7 hD7 hh
  generalize (h : Int) = h1 at *
  go_wp2_with fail
  refine (dhour_any _ d v l _ hD8.out).mono ?_; rintro e W9 ⟨k, hk, rfl, hD, hK⟩
  have b9 := Lib.hid (b8.out.trans (hK.below hdge.out b8.out.size))
  clear hD hK b8 hD8 hk
  generalize (k : Int) = h2 at *
  go_upto_region 7 with (fail)
  have b10 := Lib.hid (trans_at b9.out (alloc1 W9 (.cells #[.int .i64 f1, .int .i64 t1] 46)))
  have A10 := Lib.hid (TwoAt.new W9 f1 t1)
  clear b9
  generalize W9.alloc (.cells #[.int .i64 f1, .int .i64 t1] 46) = W10 at b10 A10 ⊢
  generalize hp : W9.heap.size = p5 at A10 ⊢
  clear hp
  have hv : pvB f1 t1 = true := (pvB_iff _ _).2 ⟨q1, q2, q3⟩
  have m1 := el_mono f1 t1 (min h1 h2) (max h1 h2) (by omega) hv
  have m2 := el_val f1 t1 (min h1 h2) hv
  have m3 := el_val f1 t1 (max h1 h2) hv
  have m4 := el_to f1 t1 hv
  have m5 : 0 < (t1 - f1 + 23) / 24 := by omega
  have s1 := Lib.hid (fun w => elapsed_any f1 t1 (min h1 h2) w)
  have s2 := Lib.hid (fun w => elapsed_any f1 t1 (max h1 h2) w)
  have s3 := Lib.hid (fun w => elapsed_any f1 t1 t1 w)
  have s4 := Lib.hid (fun w => relapsed_any f1 t1 (min h1 h2) w)
  have c8 := Lib.hid awake_any
  rw [m2] at s1 s4
  rw [m3] at s2
  rw [m4] at s3
  clear m2 m3 m4 hv q1 q2 q3
  have hc : (h2 < h1 ∧ min h1 h2 = h2 ∧ max h1 h2 = h1) ∨ (h1 < h2 ∧ min h1 h2 = h1 ∧ max h1 h2 = h2) ∨ (h1 = h2 ∧ min h1 h2 = h1 ∧ max h1 h2 = h1) := by omega
  generalize (elV f1 t1 (min h1 h2)).1 = x1 at *
  generalize (elV f1 t1 (max h1 h2)).1 = x2 at *
  generalize (elV f1 t1 t1).2 = x3 at *
  generalize (t1 - f1 + 23) / 24 = x4 at *
  generalize min h1 h2 = mn at *
  generalize max h1 h2 = mx at *
  rcases hc with ⟨hc, rfl, rfl⟩ | ⟨hc, rfl, rfl⟩ | ⟨hc, hd, he⟩
  · have hc2 : ¬ (mx < mn) := by omega
    obtain ⟨-, k0, k1, -⟩ := A10.out
    go_wp2_with fail
    refine (s1.out _).mono ?_; rintro e W11 ⟨rfl, hB⟩
    have b11 := Lib.hid (trans_at b10.out hB)
    have A11 := Lib.hid (A10.out.keep hB)
    clear hB k0 k1 b10 A10
    obtain ⟨-, k0, k1, -⟩ := A11.out
    go_wp2_with fail
    refine (s2.out _).mono ?_; rintro e W12 ⟨rfl, hB⟩
    have b12 := Lib.hid (trans_at b11.out hB)
    have A12 := Lib.hid (A11.out.keep hB)
    clear hB k0 k1 b11 A11
    obtain ⟨-, k0, k1, -⟩ := A12.out
    go_wp2_with fail
    refine (s3.out _).mono ?_; rintro e W13 ⟨rfl, hB⟩
    have b13 := Lib.hid (trans_at b12.out hB)
    have A13 := Lib.hid (A12.out.keep hB)
    clear hB k0 k1 b12 A12
    obtain ⟨-, k0, k1, -⟩ := A13.out
    go_wp2_with fail
    refine (s1.out _).mono ?_; rintro e W14 ⟨rfl, hB⟩
    have b14 := Lib.hid (trans_at b13.out hB)
    have A14 := Lib.hid (A13.out.keep hB)
    clear hB k0 k1 b13 A13
    obtain ⟨-, k0, k1, -⟩ := A14.out
    go_wp2_with fail
    refine (s4.out _).mono ?_; rintro e W15 ⟨rfl, hB⟩
    have b15 := Lib.hid (trans_at b14.out hB)
    have A15 := Lib.hid (A14.out.keep hB)
    clear hB k0 k1 b14 A14
    obtain ⟨-, k0, k1, -⟩ := A15.out
    go_wp2_with fail
    refine (c8.out _ (hTT.out.keep b15.out)).mono ?_; rintro e W16 ⟨rfl, hB⟩
    have b16 := Lib.hid (trans_at b15.out hB)
    clear hB
    go_wp2_with fail
    go_ret
    exact ⟨rfl, b16.out⟩
  · have hc2 : ¬ (mx < mn) := by omega
    obtain ⟨-, k0, k1, -⟩ := A10.out
    go_wp2_with fail
    refine (s1.out _).mono ?_; rintro e W11 ⟨rfl, hB⟩
    have b11 := Lib.hid (trans_at b10.out hB)
    have A11 := Lib.hid (A10.out.keep hB)
    clear hB k0 k1 b10 A10
    obtain ⟨-, k0, k1, -⟩ := A11.out
    go_wp2_with fail
    refine (s2.out _).mono ?_; rintro e W12 ⟨rfl, hB⟩
    have b12 := Lib.hid (trans_at b11.out hB)
    have A12 := Lib.hid (A11.out.keep hB)
    clear hB k0 k1 b11 A11
    obtain ⟨-, k0, k1, -⟩ := A12.out
    go_wp2_with fail
    refine (s3.out _).mono ?_; rintro e W13 ⟨rfl, hB⟩
    have b13 := Lib.hid (trans_at b12.out hB)
    have A13 := Lib.hid (A12.out.keep hB)
    clear hB k0 k1 b12 A12
    obtain ⟨-, k0, k1, -⟩ := A13.out
    go_wp2_with fail
    refine (s1.out _).mono ?_; rintro e W14 ⟨rfl, hB⟩
    have b14 := Lib.hid (trans_at b13.out hB)
    have A14 := Lib.hid (A13.out.keep hB)
    clear hB k0 k1 b13 A13
    obtain ⟨-, k0, k1, -⟩ := A14.out
    go_wp2_with fail
    refine (s4.out _).mono ?_; rintro e W15 ⟨rfl, hB⟩
    have b15 := Lib.hid (trans_at b14.out hB)
    have A15 := Lib.hid (A14.out.keep hB)
    clear hB k0 k1 b14 A14
    obtain ⟨-, k0, k1, -⟩ := A15.out
    go_wp2_with fail
    refine (c8.out _ (hTT.out.keep b15.out)).mono ?_; rintro e W16 ⟨rfl, hB⟩
    have b16 := Lib.hid (trans_at b15.out hB)
    clear hB
    go_wp2_with fail
    go_ret
    exact ⟨rfl, b16.out⟩
  · subst hc; subst hd; subst he
    obtain ⟨-, k0, k1, -⟩ := A10.out
    go_wp2_with fail
    refine (s1.out _).mono ?_; rintro e W11 ⟨rfl, hB⟩
    have b11 := Lib.hid (trans_at b10.out hB)
    have A11 := Lib.hid (A10.out.keep hB)
    clear hB k0 k1 b10 A10
    obtain ⟨-, k0, k1, -⟩ := A11.out
    go_wp2_with fail
    refine (s2.out _).mono ?_; rintro e W12 ⟨rfl, hB⟩
    have b12 := Lib.hid (trans_at b11.out hB)
    have A12 := Lib.hid (A11.out.keep hB)
    clear hB k0 k1 b11 A11
    obtain ⟨-, k0, k1, -⟩ := A12.out
    go_wp2_with fail
    refine (s3.out _).mono ?_; rintro e W13 ⟨rfl, hB⟩
    have b13 := Lib.hid (trans_at b12.out hB)
    have A13 := Lib.hid (A12.out.keep hB)
    clear hB k0 k1 b12 A12
    obtain ⟨-, k0, k1, -⟩ := A13.out
    go_wp2_with fail
    refine (s1.out _).mono ?_; rintro e W14 ⟨rfl, hB⟩
    have b14 := Lib.hid (trans_at b13.out hB)
    have A14 := Lib.hid (A13.out.keep hB)
    clear hB k0 k1 b13 A13
    obtain ⟨-, k0, k1, -⟩ := A14.out
    go_wp2_with fail
    refine (s4.out _).mono ?_; rintro e W15 ⟨rfl, hB⟩
    have b15 := Lib.hid (trans_at b14.out hB)
    have A15 := Lib.hid (A14.out.keep hB)
    clear hB k0 k1 b14 A14
    obtain ⟨-, k0, k1, -⟩ := A15.out
    go_wp2_with fail
    refine (c8.out _ (hTT.out.keep b15.out)).mono ?_; rintro e W16 ⟨rfl, hB⟩
    have b16 := Lib.hid (trans_at b15.out hB)
    clear hB
    go_wp2_with fail
    go_ret
    exact ⟨rfl, b16.out⟩
end Go.Proofs.YtlhgjhdeidhibaaDoor.Cal
