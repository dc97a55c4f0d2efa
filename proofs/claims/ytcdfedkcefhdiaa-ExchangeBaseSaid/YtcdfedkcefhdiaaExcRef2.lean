/- RateAt of the reference. -/
import Derived.Test.YtcdfedkcefhdiaaExcRef
namespace Go.Proofs.Ytcdfedkcefhdiaa.Exc
open Go.RowKit Go.Lib Go.Proofs.Ytcdfedkcefhdiaa.Bas Go.Proofs.Ytcdfedkcefhdiaa.Spl
set_option linter.unusedVariables false

theorem rrates_any (v : Value) (l : List Rt) (w : World) (h : RatesAt w v l) (hm : l.length ≤ 9223372036854775807) : Calls Try.prog 16 #[v] w (ErrBe (ratesV l) w) := by
  unfold ratesV
  by_cases g : 200 < l.length
  · rw [if_pos g]; exact rates_long v l w h g hm
  · rw [if_neg g]; exact rates_short v l w h (by omega)
/-- A number and an error; nothing of before has changed. -/
def NumOut (x r : Int) (w : World) (e : Ending) (w' : World) : Prop := e = .returned (.tuple #[.int .i64 x, .int .i64 r]) ∧ Below w.heap.size w w'
theorem trans_at {a b c : World} (h : Below a.heap.size a b) (k : Below b.heap.size b c) : Below a.heap.size a c := h.trans (k.mono h.size)

theorem rateAt_err (v : Value) (l : List Rt) (cur hr r : Int) (w : World) (c : Hid (Calls Try.prog 16 #[v] w (ErrBe r w))) (hr0 : (r == 0) = false) (hr1 : (r != 0) = true) :
    Calls Try.prog 11 #[v, .int .i64 cur, .int .i64 hr] w (NumOut 0 r w) := by
  go_enter Try.func11, Try.ntmps11
  go_wp2_with fail
  refine c.out.mono ?_; rintro e W1 ⟨rfl, hB⟩
  have b1 := Lib.hid hB
  clear hB
  go_wp2_with fail
  go_ret2
  exact ⟨rfl, b1.out⟩
theorem rateAt_hour (v : Value) (l : List Rt) (cur hr : Int) (w : World) (c : Hid (Calls Try.prog 16 #[v] w (ErrBe 0 w))) (hh : hrB hr = false) :
    Calls Try.prog 11 #[v, .int .i64 cur, .int .i64 hr] w (NumOut 0 1 w) := by
  have ch := Lib.hid (fun w => inHours_any hr w _ hh)
  clear hh
  go_enter Try.func11, Try.ntmps11
  go_wp2_with fail
  refine c.out.mono ?_; rintro e W1 ⟨rfl, hB⟩
  have b1 := Lib.hid hB
  clear hB
  go_wp2_with fail
  refine (ch.out _).mono ?_; rintro e w' ⟨rfl, rfl⟩
  go_wp2_with fail
  go_ret2
  exact ⟨rfl, b1.out⟩
theorem rateAt_cur (v : Value) (l : List Rt) (cur hr : Int) (w : World) (c : Hid (Calls Try.prog 16 #[v] w (ErrBe 0 w))) (hh : hrB hr = true) (hc : cuB cur = false) :
    Calls Try.prog 11 #[v, .int .i64 cur, .int .i64 hr] w (NumOut 0 15 w) := by
  have ch := Lib.hid (fun w => inHours_any hr w _ hh)
  have cc := Lib.hid (fun w => curOk_any cur w _ hc)
  clear hh hc
  go_enter Try.func11, Try.ntmps11
  go_wp2_with fail
  refine c.out.mono ?_; rintro e W1 ⟨rfl, hB⟩
  have b1 := Lib.hid hB
  clear hB
  go_wp2_with fail
  refine (ch.out _).mono ?_; rintro e w' ⟨rfl, rfl⟩
  go_wp2_with fail
  refine (cc.out _).mono ?_; rintro e w' ⟨rfl, rfl⟩
  go_wp2_with fail
  go_ret2
  exact ⟨rfl, b1.out⟩
theorem rateAt_base (v : Value) (l : List Rt) (hr : Int) (w : World) (c : Hid (Calls Try.prog 16 #[v] w (ErrBe 0 w))) (hh : hrB hr = true) :
    Calls Try.prog 11 #[v, .int .i64 0, .int .i64 hr] w (NumOut 1000000 0 w) := by
  have ch := Lib.hid (fun w => inHours_any hr w _ hh)
  have cc := Lib.hid (fun w => curOk_any 0 w true rfl)
  clear hh
  go_enter Try.func11, Try.ntmps11
  go_wp2_with fail
  refine c.out.mono ?_; rintro e W1 ⟨rfl, hB⟩
  have b1 := Lib.hid hB
  clear hB
  go_wp2_with fail
  refine (ch.out _).mono ?_; rintro e w' ⟨rfl, rfl⟩
  go_wp2_with fail
  refine (cc.out _).mono ?_; rintro e w' ⟨rfl, rfl⟩
  go_wp2_with fail
  go_ret2
  exact ⟨rfl, b1.out⟩
set_option maxHeartbeats 8000000 in
theorem rateAt_loop (v : Value) (l : List Rt) (cur hr : Int) (w : World) (h : RatesAt w v l) (hl : l.length ≤ 200) (c : Hid (Calls Try.prog 16 #[v] w (ErrBe 0 w))) (hh : hrB hr = true) (hc : cuB cur = true) (hc0 : cur ≠ 0)
    (hpb : ∀ i, i < l.length → 1 ≤ (rt l i).p ∧ (rt l i).p ≤ 1000000000) (q1 q2 : Int) (hq : Hid ((lastP l cur hr l.length = 0 → q1 = 0 ∧ q2 = 15) ∧ (lastP l cur hr l.length ≠ 0 → q1 = lastP l cur hr l.length ∧ q2 = 0))) :
    Calls Try.prog 11 #[v, .int .i64 cur, .int .i64 hr] w (NumOut q1 q2 w) := by
  have ch := Lib.hid (fun w => inHours_any hr w _ hh)
  have cc := Lib.hid (fun w => curOk_any cur w _ hc)
  obtain ⟨p, cp, rfl, -, hp⟩ := h
  obtain ⟨n, hn⟩ : ∃ n, l.length = n := ⟨_, rfl⟩
  rw [hn] at hp hl hq hpb c ⊢
  have hp' := Lib.hid hp
  have hpb' := Lib.hid hpb
  have t0 : (cur == 0) = false := by simp [hc0]
  clear hh hc hc0 hp hpb hn
  go_enter Try.func11, Try.ntmps11
  go_wp2_with fail
  refine c.out.mono ?_; rintro e W1 ⟨rfl, hB⟩
  have b1 := Lib.hid hB
  clear hB
  go_wp2_with fail
  refine (ch.out _).mono ?_; rintro e w' ⟨rfl, rfl⟩
  go_wp2_with fail
  refine (cc.out _).mono ?_; rintro e w' ⟨rfl, rfl⟩
  go_wp2_with fail
  go_loop [9, 10] (fun x i => ∃ k : Nat, k ≤ n ∧ i = .int .i64 k ∧ x = .int .i64 (lastP l cur hr k)) (fun _ i => n - (intOf i).toNat)
  case atStart => exact ⟨0, Nat.zero_le _, rfl, rfl⟩
  case round =>
    obtain ⟨k, hk, rfl, rfl⟩ := hrel
    have lb := lastP_bd l cur hr k (fun i hi => hpb'.out i (by omega))
    have lb1 := lb.1
    have lb2 := lb.2
    clear lb
    by_cases hlt : k < n
    · obtain ⟨b, off, rfl, hc⟩ := hp'.out (by omega)
      have hlb : b < w.heap.size := World.block_lt_of_cell? _ _ (hc 0 (by omega)).1
      have y := hc k hlt
      rw [← b1.out.cell (p := ⟨b, off + k * 3, none⟩) hlb, ← b1.out.cell (p := ⟨b, off + k * 3 + 1, none⟩) hlb, ← b1.out.cell (p := ⟨b, off + k * 3 + 2, none⟩) hlb] at y
      obtain ⟨y0, y1, y2⟩ := y
      have hst : Hid (lastP l cur hr (k + 1) = if (rt l k).c = cur ∧ (rt l k).f ≤ hr then (rt l k).p else lastP l cur hr k) := Lib.hid rfl
      clear hc
      generalize lastP l cur hr k = x at *
      generalize (rt l k).c = C at *
      generalize (rt l k).f = F at *
      generalize (rt l k).p = P at *
      by_cases e1 : C = cur
      · have t1 : (C == cur) = true := by simp [e1]
        by_cases e2 : F ≤ hr
        · have t2 : decide (F ≤ hr) = true := decide_eq_true e2
          have hst2 : Hid (lastP l cur hr (k + 1) = P) := Lib.hid (by rw [hst.out, if_pos ⟨e1, e2⟩])
          clear e1 e2
          go_wp2_with fail
          go_round
          case rel => exact ⟨k + 1, by omega, by go_num, by rw [hst2.out]⟩
          case measure => simp [intOf]; omega
        · have t2 : decide (F ≤ hr) = false := decide_eq_false e2
          have hst2 : Hid (lastP l cur hr (k + 1) = x) := Lib.hid (by rw [hst.out, if_neg (fun e => e2 e.2)])
          clear e1 e2
          go_wp2_with fail
          go_round
          case rel => exact ⟨k + 1, by omega, by go_num, by rw [hst2.out]⟩
          case measure => simp [intOf]; omega
      · have t1 : (C == cur) = false := by simp [e1]
        have hst2 : Hid (lastP l cur hr (k + 1) = x) := Lib.hid (by rw [hst.out, if_neg (fun e => e1 e.1)])
        clear e1
        go_wp2_with fail
        go_round
        case rel => exact ⟨k + 1, by omega, by go_num, by rw [hst2.out]⟩
        case measure => simp [intOf]; omega
    · obtain rfl : k = n := by omega
      clear hlt
      by_cases e0 : lastP l cur hr k = 0
      · have hq1 := Lib.hid (hq.out.1 e0)
        have t3 : (lastP l cur hr k == 0) = true := by simp [e0]
        clear e0
        generalize lastP l cur hr k = x at *
        go_wp2_with fail
        go_ret2
        exact ⟨by rw [hq1.out.1, hq1.out.2]; rfl, b1.out⟩
      · have hq1 := Lib.hid (hq.out.2 e0)
        have t3 : (lastP l cur hr k == 0) = false := by simp [e0]
        clear e0
        go_wp2_with fail
        go_ret2
        exact ⟨by rw [hq1.out.1, hq1.out.2]; rfl, b1.out⟩
theorem rateAt_any (v : Value) (l : List Rt) (cur hr : Int) (w : World) (h : RatesAt w v l) (hm : l.length ≤ 9223372036854775807) :
    Calls Try.prog 11 #[v, .int .i64 cur, .int .i64 hr] w (NumOut (atV l cur hr).1 (atV l cur hr).2 w) := by
  have c := rrates_any v l w h hm
  unfold atV
  by_cases h0 : ratesV l = 0
  · rw [h0] at c
    rw [if_neg (by simp [h0])]
    by_cases h1 : 0 ≤ hr ∧ hr ≤ 876599
    · rw [if_neg (by simp only [Classical.not_not]; exact h1)]
      have e1 : hrB hr = true := decide_eq_true h1
      by_cases h2 : 0 ≤ cur ∧ cur ≤ 15
      · rw [if_neg (by simp only [Classical.not_not]; exact h2)]
        have e2 : cuB cur = true := decide_eq_true h2
        by_cases h3 : cur = 0
        · subst h3; rw [if_pos rfl]; exact rateAt_base v l hr w (Lib.hid c) e1
        · rw [if_neg h3]
          obtain ⟨r1, r2⟩ := rates_ok l h0
          refine rateAt_loop v l cur hr w h r1 (Lib.hid c) e1 e2 h3 (fun i hi => ?_) _ _ (Lib.hid ⟨fun e => by rw [if_pos e]; exact ⟨rfl, rfl⟩, fun e => by rw [if_neg e]; exact ⟨rfl, rfl⟩⟩)
          have := re_zero l i (r2 i hi)
          omega
      · rw [if_pos h2]; exact rateAt_cur v l cur hr w (Lib.hid c) e1 (decide_eq_false h2)
    · rw [if_pos h1]; exact rateAt_hour v l cur hr w (Lib.hid c) (decide_eq_false h1)
  · rw [if_pos h0]; exact rateAt_err v l cur hr _ w (Lib.hid c) (by simp [h0]) (by simp [h0])
end Go.Proofs.Ytcdfedkcefhdiaa.Exc
