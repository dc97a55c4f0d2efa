/- perUnit and At of package exchange. -/
import Derived.Test.YtcdfedkcefhdiaaExcSrch
namespace Go.Proofs.Ytcdfedkcefhdiaa.Exc
open Go.RowKit Go.Lib Go.Proofs.Ytcdfedkcefhdiaa.Bas Go.Proofs.Ytcdfedkcefhdiaa.Spl Go.Proofs.Ytcdfedkcefhdiaa.Dk
set_option linter.unusedVariables false

def Sorted (l : List Rt) : Prop := ∀ i, i < l.length → 0 < i → (rt l (i - 1)).c < (rt l i).c ∨ (rt l (i - 1)).c = (rt l i).c ∧ (rt l (i - 1)).f < (rt l i).f
theorem sorted_of (l : List Rt) (h : ratesV l = 0) : Sorted l := fun i hi h0 => (re_zero l i ((rates_ok l h).2 i hi)).2.2.2.2.2.2 h0
theorem sorted_le {l : List Rt} (h : Sorted l) (i j : Nat) (hij : i ≤ j) (hj : j < l.length) : (rt l i).c ≤ (rt l j).c := by
  induction j with
  | zero => obtain rfl : i = 0 := by omega
            omega
  | succ j ih =>
    by_cases e : i = j + 1
    · subst e; omega
    · have h1 := ih (by omega) (by omega)
      have h2 := h (j + 1) hj (by omega)
      rw [Nat.add_sub_cancel] at h2
      omega
theorem gt_mono {l : List Rt} (h : Sorted l) (cur hr : Int) (i j : Nat) (hij : i ≤ j) (hj : j < l.length) (g : gtB l cur hr i = true) : gtB l cur hr j = true := by
  induction j with
  | zero => obtain rfl : i = 0 := by omega
            exact g
  | succ j ih =>
    by_cases e : i = j + 1
    · subst e; exact g
    · have h1 := ih (by omega) (by omega)
      have h2 := h (j + 1) hj (by omega)
      rw [Nat.add_sub_cancel] at h2
      unfold gtB at *
      rw [decide_eq_true_eq] at *
      omega
theorem lastP_not (l : List Rt) (cur hr : Int) (s n : Nat) (hs : s ≤ n) (h : ∀ i, s ≤ i → i < n → ¬ ((rt l i).c = cur ∧ (rt l i).f ≤ hr)) : lastP l cur hr n = lastP l cur hr s := by
  induction n with
  | zero => obtain rfl : s = 0 := by omega
            rfl
  | succ n ih =>
    by_cases e : s = n + 1
    · subst e; rfl
    · show (if _ then _ else _) = _
      rw [if_neg (h n (by omega) (by omega))]
      exact ih (by omega) fun i a b => h i a (by omega)
theorem lastP_of {l : List Rt} (hS : Sorted l) (cur hr : Int) (s : Nat) (hs : s ≤ l.length) (hA : ∀ i, i < s → gtB l cur hr i = false) (hZ : ∀ i, s ≤ i → i < l.length → gtB l cur hr i = true) :
    lastP l cur hr l.length = if s = 0 then 0 else if (rt l (s - 1)).c = cur then (rt l (s - 1)).p else 0 := by
  rw [lastP_not l cur hr s l.length hs fun i a b g => by
    have := hZ i a b
    unfold gtB at this; rw [decide_eq_true_eq] at this; omega]
  cases s with
  | zero => rfl
  | succ s =>
    rw [if_neg (by omega), Nat.add_sub_cancel]
    have h1 := hA s (by omega)
    unfold gtB at h1; rw [decide_eq_false_iff_not] at h1
    show (if _ then _ else _) = _
    by_cases e : (rt l s).c = cur
    · rw [if_pos ⟨e, by omega⟩, if_pos e]
    · rw [if_neg (fun g => e g.1), if_neg e, lastP_not l cur hr 0 s (by omega) fun i _ b g => by
        have := sorted_le hS i s (by omega) (by omega); omega]
      rfl

def PU (l : List Rt) (cur hr : Int) : Int × Int := if cur = 0 then (1000000, 0) else if lastP l cur hr l.length = 0 then (0, 15) else (lastP l cur hr l.length, 0)
theorem unit_base (v : Value) (l : List Rt) (hr : Int) (w : World) (h : RatesAt w v l) : Calls Try.prog 28 #[v, .int .i64 0, .int .i64 hr] w (NumOut 1000000 0 w) := by
  obtain ⟨p, c, rfl, -, -⟩ := h
  have B0 := Lib.hid ((((Below.refl w.heap.size w).alloc (Nat.le_refl _) (.cells #[.slice p l.length c] 22)).alloc (by simp) (.cells #[.int .i64 0] 3)).alloc (by simp; omega) (.cells #[.int .i64 hr] 3))
  go_enter Try.func28, Try.ntmps28
  go_wp2_with fail
  go_ret2
  exact ⟨rfl, B0.out⟩
set_option maxHeartbeats 4000000 in
theorem unit_any (v : Value) (l : List Rt) (cur hr : Int) (w : World) (h : RatesAt w v l) (hv : ratesV l = 0) (h0 : cur ≠ 0) (q1 q2 : Int) (hq : Hid ((lastP l cur hr l.length = 0 → q1 = 0 ∧ q2 = 15) ∧ (lastP l cur hr l.length ≠ 0 → q1 = lastP l cur hr l.length ∧ q2 = 0))) :
    Calls Try.prog 28 #[v, .int .i64 cur, .int .i64 hr] w (NumOut q1 q2 w) := by
  have hS := sorted_of l hv
  have hl := (rates_ok l hv).1
  have hpp := Lib.hid (fun i hi => (re_zero l i ((rates_ok l hv).2 i hi)))
  have hR := Lib.hid h
  obtain ⟨p, c, rfl, -, hp⟩ := h
  have hp' := Lib.hid hp
  have t0 : (cur == 0) = false := by simp [h0]
  have B0 := Lib.hid ((((Below.refl w.heap.size w).alloc (Nat.le_refl _) (.cells #[.slice p l.length c] 22)).alloc (by simp) (.cells #[.int .i64 cur] 3)).alloc (by simp; omega) (.cells #[.int .i64 hr] 3))
  have C0 : CloAt (((w.alloc (.cells #[.slice p l.length c] 22)).alloc (.cells #[.int .i64 cur] 3)).alloc (.cells #[.int .i64 hr] 3)) w.heap.size (w.heap.size + 1) (w.heap.size + 1 + 1) p l.length c cur hr := by
    exact ⟨by go_simp, by go_simp, by go_simp⟩
  have C0' := Lib.hid C0
  have hs := Lib.hid (fun W hB hC => search_any w.heap.size (w.heap.size + 1) (w.heap.size + 1 + 1) l.length c cur hr l p W (hR.out.below hB) rfl hl hC (fun i j a b g => gt_mono hS cur hr i j a b g))
  have hlast := Lib.hid (fun s a b c => lastP_of hS cur hr s a b c)
  clear C0 hp h0
  go_enter Try.func28, Try.ntmps28
  go_wp2_with fail
  refine (hs.out _ B0.out C0'.out).mono ?_; rintro e W ⟨s, rfl, hsn, hA, hZ, hB⟩
  have B1 := Lib.hid (B0.out.trans (hB.mono B0.out.size))
  have C1 := C0'.out.keep hB
  have hL := Lib.hid (hlast.out s hsn hA hZ)
  obtain ⟨c0, c1, c2⟩ := C1
  clear hs C0' B0 hA hZ hB hlast
  by_cases hs0 : s = 0
  · have hq1 := Lib.hid (hq.out.1 (by rw [hL.out, if_pos hs0]))
    have q1 : ((s : Int) == 0) = true := by simp [hs0]
    have q2 : (s == 0) = true := by simp [hs0]
    clear hs0
    go_wp2_with fail
    go_quiet (fail)
    go_wp2_with fail
    go_ret2
    exact ⟨by rw [hq1.out.1, hq1.out.2]; rfl, below_drewN B1.out _⟩
  · have u1 : ((s : Int) == 0) = false := by simp [hs0]
    have u2 : (s == 0) = false := by simp [hs0]
    have i1 : (0 : Int) ≤ (s : Int) - 1 := by omega
    have i2 : (s : Int) - 1 < (l.length : Int) := by omega
    have i3 : ((s : Int) - 1).toNat = s - 1 := by omega
    have i5 : (1 : Int) ≤ (s : Int) := by omega
    have i6 : (s : Int) < (l.length : Int) + 1 := by omega
    have i4 : IntKind.i64.wrap ((s : Int) - 1) = (s : Int) - 1 := IntWalk.i64_in _ (by omega)
    obtain ⟨b, off, rfl, hc⟩ := hp'.out (by omega)
    obtain ⟨y0, y1, y2⟩ := hc (s - 1) (by omega)
    have z0 := cellK y0 B1.out
    have z2 := cellK y2 B1.out
    have hL2 := Lib.hid (show lastP l cur hr l.length = if (rt l (s - 1)).c = cur then (rt l (s - 1)).p else 0 by rw [hL.out, if_neg hs0])
    have hpq := Lib.hid (hpp.out (s - 1) (by omega))
    clear hc y0 y1 y2 hs0 hp'
    generalize (rt l (s - 1)).c = C at *
    generalize (rt l (s - 1)).p = P at *
    by_cases e : C = cur
    · have hq1 := Lib.hid (hq.out.2 (by rw [hL2.out, if_pos e]; have := hpq.out; omega))
      have hq2 := Lib.hid (show q1 = P by rw [hq1.out.1, hL2.out, if_pos e])
      have u3 : (C != cur) = false := by simp [e]
      have u4 : (C == cur) = true := by simp [e]
      clear e
      go_wp2_with fail
      go_quiet (fail)
      go_wp2_with fail
      go_ret2
      exact ⟨by rw [hq2.out, hq1.out.2]; rfl, below_drewN B1.out _⟩
    · have hq1 := Lib.hid (hq.out.1 (by rw [hL2.out, if_neg e]))
      have u3 : (C != cur) = true := by simp [e]
      have u4 : (C == cur) = false := by simp [e]
      clear e
      go_wp2_with fail
      go_quiet (fail)
      go_wp2_with fail
      go_ret2
      exact ⟨by rw [hq1.out.1, hq1.out.2]; rfl, below_drewN B1.out _⟩
end Go.Proofs.Ytcdfedkcefhdiaa.Exc
