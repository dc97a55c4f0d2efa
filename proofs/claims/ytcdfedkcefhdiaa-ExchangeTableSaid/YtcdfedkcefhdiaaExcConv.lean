/- convert and Convert of package exchange. -/
import Derived.Test.YtcdfedkcefhdiaaExcBalP
import Derived.Test.YtcdfedkcefhdiaaMulP
namespace Go.Proofs.Ytcdfedkcefhdiaa.Exc
open Go.RowKit Go.Lib Go.Proofs.Ytcdfedkcefhdiaa.Bas Go.Proofs.Ytcdfedkcefhdiaa.Spl Go.Proofs.Ytcdfedkcefhdiaa.Dk
set_option linter.unusedVariables false

/-- Convert, for a valid table. -/
def convV (l : List Rt) (c a u hr : Int) : Int × Int :=
  if ¬ okI a ∨ ¬ (0 ≤ hr ∧ hr ≤ 876599) then (0, 1) else if ¬ (0 ≤ c ∧ c ≤ 15) ∨ ¬ (0 ≤ u ∧ u ≤ 15) then (0, 15) else if c = u then (a, 0)
  else if (PU l c hr).2 ≠ 0 then (0, (PU l c hr).2) else if (PU l u hr).2 ≠ 0 then (0, (PU l u hr).2) else Amt.md a (PU l c hr).1 (PU l u hr).1 4
set_option maxHeartbeats 8000000 in
theorem conv_in (v : Value) (l : List Rt) (c a u hr : Int) (w : World) (h : RatesAt w v l) (hv : ratesV l = 0) :
    Calls Try.prog 34 #[v, .agg #[.int .i64 c, .int .i64 a], .int .i64 u, .int .i64 hr] w (NumOut (convV l c a u hr).1 (convV l c a u hr).2 w) := by
  have cva := Lib.hid avalid_any
  have chr := Lib.hid isHour_any
  have ccu := Lib.hid isCur_any
  have cun := Lib.hid (fun cur W hB => unit_all v l cur hr W (h.below hB) hv)
  have cmd := Lib.hid Amt.md_any
  have hV := Lib.hid (show convV l c a u hr = _ from rfl)
  have B0 := Lib.hid (alloc1 w (.cells #[.int .i64 c, .int .i64 a] 40))
  have g0 : (w.alloc (.cells #[.int .i64 c, .int .i64 a] 40)).cell? ⟨w.heap.size, 0, none⟩ = some (.int .i64 c) := by simp
  have g1 : (w.alloc (.cells #[.int .i64 c, .int .i64 a] 40)).cell? ⟨w.heap.size, 1, none⟩ = some (.int .i64 a) := by simp
  unfold convV
  generalize hp1 : PU l c hr = P1 at *
  generalize hp2 : PU l u hr = P2 at *
  have hp1' := Lib.hid hp1
  have hp2' := Lib.hid hp2
  clear hV hv hp1 hp2
  obtain ⟨p, cp, rfl, -, -⟩ := h
  obtain ⟨x, r⟩ := P1
  obtain ⟨y, q⟩ := P2
  generalize hn : l.length = n at *
  clear hn
  by_cases ha : okI a
  · have e1 : okB a = true := decide_eq_true ha
    by_cases hh : 0 ≤ hr ∧ hr ≤ 876599
    · have e2 : hrB hr = true := decide_eq_true hh
      rw [if_neg (show ¬ (¬ okI a ∨ ¬ (0 ≤ hr ∧ hr ≤ 876599)) from fun g => g.elim (fun g => g ha) (fun g => g hh))]
      by_cases hc : 0 ≤ c ∧ c ≤ 15
      · have e3 : cuB c = true := decide_eq_true hc
        by_cases ht : 0 ≤ u ∧ u ≤ 15
        · have e4 : cuB u = true := decide_eq_true ht
          rw [if_neg (show ¬ (¬ (0 ≤ c ∧ c ≤ 15) ∨ ¬ (0 ≤ u ∧ u ≤ 15)) from fun g => g.elim (fun g => g hc) (fun g => g ht))]
          by_cases hct : c = u
          · rw [if_pos hct]
            have e5 : (c == u) = true := by simp [hct]
            clear ha hh hc ht hct
            go_enter Try.func34, Try.ntmps34
            go_upto_region 1 with (fail)
            generalize w.alloc (.cells #[.int .i64 c, .int .i64 a] 40) = W at *
            go_wp2_with fail
            refine (cva.out a _ _ e1).mono ?_; rintro e w' ⟨rfl, rfl⟩
            go_wp2_with fail
            refine (chr.out hr _ _ e2).mono ?_; rintro e w' ⟨rfl, rfl⟩
            go_wp2_with fail
            refine (ccu.out c _ _ e3).mono ?_; rintro e w' ⟨rfl, rfl⟩
            go_wp2_with fail
            refine (ccu.out u _ _ e4).mono ?_; rintro e w' ⟨rfl, rfl⟩
            go_wp2_with fail
            go_ret2
            exact ⟨rfl, B0.out⟩
          · rw [if_neg hct]
            have e5 : (c == u) = false := by simp [hct]
            by_cases hr0 : r = 0
            · subst hr0
              rw [if_neg (show ¬ ((x, (0 : Int)).2 ≠ 0) by simp)]
              by_cases hq0 : q = 0
              · subst hq0
                rw [if_neg (show ¬ ((y, (0 : Int)).2 ≠ 0) by simp)]
                generalize hmd : Amt.md a (x, (0 : Int)).1 (y, (0 : Int)).1 4 = M at *
                obtain ⟨N, E⟩ := M
                have hmd' := Lib.hid hmd
                clear hmd ha hh hc ht hct
                go_enter Try.func34, Try.ntmps34
                go_upto_region 1 with (fail)
                generalize w.alloc (.cells #[.int .i64 c, .int .i64 a] 40) = W at *
                go_wp2_with fail
                refine (cva.out a _ _ e1).mono ?_; rintro e w' ⟨rfl, rfl⟩
                go_wp2_with fail
                refine (chr.out hr _ _ e2).mono ?_; rintro e w' ⟨rfl, rfl⟩
                go_wp2_with fail
                refine (ccu.out c _ _ e3).mono ?_; rintro e w' ⟨rfl, rfl⟩
                go_wp2_with fail
                refine (ccu.out u _ _ e4).mono ?_; rintro e w' ⟨rfl, rfl⟩
                go_wp2_with fail
                have c1 := cun.out c _ B0.out
                rw [hp1'.out] at c1
                refine c1.mono ?_; rintro e W1 ⟨rfl, hB⟩
                have B1 := Lib.hid (B0.out.trans (hB.mono B0.out.size))
                have h0 := cellK g0 hB
                have h1 := cellK g1 hB
                clear hB c1 g0 g1
                go_wp2_with fail
                have c2 := cun.out u _ B1.out
                rw [hp2'.out] at c2
                refine c2.mono ?_; rintro e W2 ⟨rfl, hB⟩
                have B2 := Lib.hid (B1.out.trans (hB.mono B1.out.size))
                have k0 := cellK h0 hB
                have k1 := cellK h1 hB
                clear hB c2 h0 h1
                go_wp2_with fail
                refine (cmd.out a x y 4 N E hmd'.out _).mono ?_; rintro e W3 ⟨rfl, m, rfl⟩
                go_wp2_with fail
                go_ret2
                exact ⟨rfl, below_drewN B2.out _⟩
              · rw [if_pos (show (y, q).2 ≠ 0 from hq0)]
                have e6 : (q == 0) = false := by simp [hq0]
                have e7 : (q != 0) = true := by simp [hq0]
                clear ha hh hc ht hct hq0
                go_enter Try.func34, Try.ntmps34
                go_upto_region 1 with (fail)
                generalize w.alloc (.cells #[.int .i64 c, .int .i64 a] 40) = W at *
                go_wp2_with fail
                refine (cva.out a _ _ e1).mono ?_; rintro e w' ⟨rfl, rfl⟩
                go_wp2_with fail
                refine (chr.out hr _ _ e2).mono ?_; rintro e w' ⟨rfl, rfl⟩
                go_wp2_with fail
                refine (ccu.out c _ _ e3).mono ?_; rintro e w' ⟨rfl, rfl⟩
                go_wp2_with fail
                refine (ccu.out u _ _ e4).mono ?_; rintro e w' ⟨rfl, rfl⟩
                go_wp2_with fail
                have c1 := cun.out c _ B0.out
                rw [hp1'.out] at c1
                refine c1.mono ?_; rintro e W1 ⟨rfl, hB⟩
                have B1 := Lib.hid (B0.out.trans (hB.mono B0.out.size))
                clear hB c1
                go_wp2_with fail
                have c2 := cun.out u _ B1.out
                rw [hp2'.out] at c2
                refine c2.mono ?_; rintro e W2 ⟨rfl, hB⟩
                have B2 := Lib.hid (B1.out.trans (hB.mono B1.out.size))
                clear hB c2
                go_wp2_with fail
                go_ret2
                exact ⟨rfl, B2.out⟩
            · rw [if_pos (show (x, r).2 ≠ 0 from hr0)]
              have e6 : (r == 0) = false := by simp [hr0]
              have e7 : (r != 0) = true := by simp [hr0]
              clear ha hh hc ht hct hr0
              go_enter Try.func34, Try.ntmps34
              go_upto_region 1 with (fail)
              generalize w.alloc (.cells #[.int .i64 c, .int .i64 a] 40) = W at *
              go_wp2_with fail
              refine (cva.out a _ _ e1).mono ?_; rintro e w' ⟨rfl, rfl⟩
              go_wp2_with fail
              refine (chr.out hr _ _ e2).mono ?_; rintro e w' ⟨rfl, rfl⟩
              go_wp2_with fail
              refine (ccu.out c _ _ e3).mono ?_; rintro e w' ⟨rfl, rfl⟩
              go_wp2_with fail
              refine (ccu.out u _ _ e4).mono ?_; rintro e w' ⟨rfl, rfl⟩
              go_wp2_with fail
              have c1 := cun.out c _ B0.out
              rw [hp1'.out] at c1
              refine c1.mono ?_; rintro e W1 ⟨rfl, hB⟩
              have B1 := Lib.hid (B0.out.trans (hB.mono B0.out.size))
              clear hB c1
              go_wp2_with fail
              go_ret2
              exact ⟨rfl, B1.out⟩
        · have e4 : cuB u = false := decide_eq_false ht
          rw [if_pos (show ¬ (0 ≤ c ∧ c ≤ 15) ∨ ¬ (0 ≤ u ∧ u ≤ 15) from .inr ht)]
          clear ha hh hc ht
          go_enter Try.func34, Try.ntmps34
          go_upto_region 1 with (fail)
          generalize w.alloc (.cells #[.int .i64 c, .int .i64 a] 40) = W at *
          go_wp2_with fail
          refine (cva.out a _ _ e1).mono ?_; rintro e w' ⟨rfl, rfl⟩
          go_wp2_with fail
          refine (chr.out hr _ _ e2).mono ?_; rintro e w' ⟨rfl, rfl⟩
          go_wp2_with fail
          refine (ccu.out c _ _ e3).mono ?_; rintro e w' ⟨rfl, rfl⟩
          go_wp2_with fail
          refine (ccu.out u _ _ e4).mono ?_; rintro e w' ⟨rfl, rfl⟩
          go_wp2_with fail
          go_ret2
          exact ⟨rfl, B0.out⟩
      · have e3 : cuB c = false := decide_eq_false hc
        rw [if_pos (show ¬ (0 ≤ c ∧ c ≤ 15) ∨ ¬ (0 ≤ u ∧ u ≤ 15) from .inl hc)]
        clear ha hh hc
        go_enter Try.func34, Try.ntmps34
        go_upto_region 1 with (fail)
        generalize w.alloc (.cells #[.int .i64 c, .int .i64 a] 40) = W at *
        go_wp2_with fail
        refine (cva.out a _ _ e1).mono ?_; rintro e w' ⟨rfl, rfl⟩
        go_wp2_with fail
        refine (chr.out hr _ _ e2).mono ?_; rintro e w' ⟨rfl, rfl⟩
        go_wp2_with fail
        refine (ccu.out c _ _ e3).mono ?_; rintro e w' ⟨rfl, rfl⟩
        go_wp2_with fail
        go_ret2
        exact ⟨rfl, B0.out⟩
    · have e2 : hrB hr = false := decide_eq_false hh
      rw [if_pos (show ¬ okI a ∨ ¬ (0 ≤ hr ∧ hr ≤ 876599) from .inr hh)]
      clear ha hh
      go_enter Try.func34, Try.ntmps34
      go_upto_region 1 with (fail)
      generalize w.alloc (.cells #[.int .i64 c, .int .i64 a] 40) = W at *
      go_wp2_with fail
      refine (cva.out a _ _ e1).mono ?_; rintro e w' ⟨rfl, rfl⟩
      go_wp2_with fail
      refine (chr.out hr _ _ e2).mono ?_; rintro e w' ⟨rfl, rfl⟩
      go_wp2_with fail
      go_ret2
      exact ⟨rfl, B0.out⟩
  · have e1 : okB a = false := decide_eq_false ha
    rw [if_pos (show ¬ okI a ∨ ¬ (0 ≤ hr ∧ hr ≤ 876599) from .inl ha)]
    clear ha
    go_enter Try.func34, Try.ntmps34
    go_upto_region 1 with (fail)
    generalize w.alloc (.cells #[.int .i64 c, .int .i64 a] 40) = W at *
    go_wp2_with fail
    refine (cva.out a _ _ e1).mono ?_; rintro e w' ⟨rfl, rfl⟩
    go_wp2_with fail
    go_ret2
    exact ⟨rfl, B0.out⟩
set_option maxHeartbeats 4000000 in
/-- Convert. -/
theorem conv_any (v : Value) (l : List Rt) (c a u hr : Int) (w : World) (h : RatesAt w v l) (hm : l.length ≤ 9223372036854775807) :
    Calls Try.prog 18 #[v, .agg #[.int .i64 c, .int .i64 a], .int .i64 u, .int .i64 hr] w
      (NumOut (if ratesV l = 0 then (convV l c a u hr).1 else 0) (if ratesV l = 0 then (convV l c a u hr).2 else ratesV l) w) := by
  have B0 := Lib.hid (alloc1 w (.cells #[.int .i64 c, .int .i64 a] 40))
  have g0 : (w.alloc (.cells #[.int .i64 c, .int .i64 a] 40)).cell? ⟨w.heap.size, 0, none⟩ = some (.int .i64 c) := by simp
  have g1 : (w.alloc (.cells #[.int .i64 c, .int .i64 a] 40)).cell? ⟨w.heap.size, 1, none⟩ = some (.int .i64 a) := by simp
  have cV := Lib.hid (val_any v l _ (h.below B0.out) hm)
  by_cases h0 : ratesV l = 0
  · rw [if_pos h0, if_pos h0]
    have cI := Lib.hid (fun W hB => conv_in v l c a u hr W (h.below hB) h0)
    rw [h0] at cV
    clear h0
    generalize (convV l c a u hr).1 = N at *
    generalize (convV l c a u hr).2 = E at *
    obtain ⟨p, cp, rfl, -, -⟩ := h
    generalize l.length = n at *
    go_enter Try.func18, Try.ntmps18
    go_upto_region 1 with (fail)
    generalize w.alloc (.cells #[.int .i64 c, .int .i64 a] 40) = W at *
    go_wp2_with fail
    refine cV.out.mono ?_; rintro e W1 ⟨rfl, hB⟩
    have B1 := Lib.hid (B0.out.trans (hB.mono B0.out.size))
    have h0 := cellK g0 hB
    have h1 := cellK g1 hB
    clear hB cV g0 g1
    go_wp2_with fail
    refine (cI.out _ B1.out).mono ?_; rintro e W2 ⟨rfl, hB⟩
    have B2 := Lib.hid (B1.out.trans (hB.mono B1.out.size))
    clear hB cI
    go_wp2_with fail
    go_ret2
    exact ⟨rfl, B2.out⟩
  · rw [if_neg h0, if_neg h0]
    have e6 : (ratesV l == 0) = false := by simp [h0]
    have e7 : (ratesV l != 0) = true := by simp [h0]
    clear h0
    generalize ratesV l = r at *
    obtain ⟨p, cp, rfl, -, -⟩ := h
    generalize l.length = n at *
    go_enter Try.func18, Try.ntmps18
    go_upto_region 1 with (fail)
    generalize w.alloc (.cells #[.int .i64 c, .int .i64 a] 40) = W at *
    go_wp2_with fail
    refine cV.out.mono ?_; rintro e W1 ⟨rfl, hB⟩
    have B1 := Lib.hid (B0.out.trans (hB.mono B0.out.size))
    clear hB cV
    go_wp2_with fail
    go_ret2
    exact ⟨rfl, B1.out⟩
end Go.Proofs.Ytcdfedkcefhdiaa.Exc
