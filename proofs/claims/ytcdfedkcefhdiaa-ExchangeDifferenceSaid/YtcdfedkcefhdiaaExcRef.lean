/- The reference's table of rates: InHours, CurrencyOk, Valid, Rates, RateAt. -/
import Derived.Test.YtcdfedkcefhdiaaExcOpen
namespace Go.Proofs.Ytcdfedkcefhdiaa.Exc
open Go.RowKit Go.Lib Go.Proofs.Ytcdfedkcefhdiaa.Bas Go.Proofs.Ytcdfedkcefhdiaa.Spl
set_option linter.unusedVariables false

theorem ret_i {k : IntKind} {a b : Int} (h : a = b) : Ending.returned (.int k a) = .returned (.int k b) := by rw [h]
def hrB (n : Int) : Bool := decide (0 ≤ n ∧ n ≤ 876599)
def cuB (n : Int) : Bool := decide (0 ≤ n ∧ n ≤ 15)
theorem inHours_any (n : Int) (w : World) (b : Bool) (hb : hrB n = b) : Calls Try.prog 29 #[.int .i64 n] w fun e w' => e = .returned (.bool b) ∧ w = w' := by
  subst hb
  unfold hrB
  by_cases h0 : 0 ≤ n
  · have t0 : decide (0 ≤ n) = true := decide_eq_true h0
    by_cases h1 : n ≤ 876599
    · rw [decide_eq_true ⟨h0, h1⟩]
      have t1 : decide (n ≤ 876599) = true := decide_eq_true h1
      clear h0 h1
      go_enter Try.func29, Try.ntmps29
      go_wp2
      go_ret
      exact ⟨rfl, rfl⟩
    · rw [show decide (0 ≤ n ∧ n ≤ 876599) = false from decide_eq_false (fun h => h1 h.2)]
      have t1 : decide (n ≤ 876599) = false := decide_eq_false h1
      clear h0 h1
      go_enter Try.func29, Try.ntmps29
      go_wp2
      go_ret
      exact ⟨rfl, rfl⟩
  · rw [show decide (0 ≤ n ∧ n ≤ 876599) = false from decide_eq_false (fun h => h0 h.1)]
    have t0 : decide (0 ≤ n) = false := decide_eq_false h0
    clear h0
    go_enter Try.func29, Try.ntmps29
    go_wp2
    go_ret
    exact ⟨rfl, rfl⟩
theorem curOk_any (n : Int) (w : World) (b : Bool) (hb : cuB n = b) : Calls Try.prog 30 #[.int .i64 n] w fun e w' => e = .returned (.bool b) ∧ w = w' := by
  subst hb
  unfold cuB
  by_cases h0 : 0 ≤ n
  · have t0 : decide (0 ≤ n) = true := decide_eq_true h0
    by_cases h1 : n ≤ 15
    · rw [decide_eq_true ⟨h0, h1⟩]
      have t1 : decide (n ≤ 15) = true := decide_eq_true h1
      clear h0 h1
      go_enter Try.func30, Try.ntmps30
      go_wp2
      go_ret
      exact ⟨rfl, rfl⟩
    · rw [show decide (0 ≤ n ∧ n ≤ 15) = false from decide_eq_false (fun h => h1 h.2)]
      have t1 : decide (n ≤ 15) = false := decide_eq_false h1
      clear h0 h1
      go_enter Try.func30, Try.ntmps30
      go_wp2
      go_ret
      exact ⟨rfl, rfl⟩
  · rw [show decide (0 ≤ n ∧ n ≤ 15) = false from decide_eq_false (fun h => h0 h.1)]
    have t0 : decide (0 ≤ n) = false := decide_eq_false h0
    clear h0
    go_enter Try.func30, Try.ntmps30
    go_wp2
    go_ret
    exact ⟨rfl, rfl⟩

/-- An error; nothing of before has changed. -/
def ErrBe (r : Int) (w : World) (e : Ending) (w' : World) : Prop := e = .returned (.int .i64 r) ∧ Below w.heap.size w w'
theorem alloc1 (w : World) (o : Obj) : Below w.heap.size w (w.alloc o) := (Below.refl _ _).alloc (Nat.le_refl _) _
theorem rates_long (v : Value) (l : List Rt) (w : World) (h : RatesAt w v l) (hl : 200 < l.length) (hm : l.length ≤ 9223372036854775807) : Calls Try.prog 16 #[v] w (ErrBe 4 w) := by
  obtain ⟨p, c, rfl, -, -⟩ := h
  have t1 : decide (200 < (l.length : Int)) = true := by simp; omega
  have t2 : decide (200 < l.length) = true := by simp; omega
  go_enter Try.func16, Try.ntmps16
  go_wp2
  go_ret
  exact ⟨rfl, Below.refl _ _⟩
set_option maxHeartbeats 8000000 in
theorem rates_short (v : Value) (l : List Rt) (w : World) (h : RatesAt w v l) (hl : l.length ≤ 200) : Calls Try.prog 16 #[v] w (ErrBe (fst0 (re l) l.length) w) := by
  obtain ⟨p, c, rfl, -, hp⟩ := h
  obtain ⟨n, hn⟩ : ∃ n, l.length = n := ⟨_, rfl⟩
  rw [hn] at hp hl ⊢
  have hp' := Lib.hid hp
  have ch := Lib.hid inHours_any
  have t1 : decide (200 < (n : Int)) = false := by simp; omega
  have t2 : decide (200 < n) = false := by simp; omega
  clear hp hn
  go_enter Try.func16, Try.ntmps16
  go_wp2_with fail
  go_loopw [3] (fun i wr => ∃ k : Nat, k ≤ n ∧ i = .int .i64 k ∧ Hid (fst0 (re l) k = 0) ∧ Hid (Below w.heap.size w wr)) (fun i _ => n - (intOf i).toNat)
  case atStart => exact ⟨0, Nat.zero_le _, rfl, Lib.hid rfl, Lib.hid (Below.refl _ _)⟩
  case round =>
    obtain ⟨k, hk, rfl, hz, hB⟩ := hrel
    by_cases hlt : k < n
    · obtain ⟨b, off, rfl, hc⟩ := hp'.out (by omega)
      have hlb : b < w.heap.size := World.block_lt_of_cell? _ _ (hc 0 (by omega)).1
      have y := hc k hlt
      rw [← hB.out.cell (p := ⟨b, off + k * 3, none⟩) hlb, ← hB.out.cell (p := ⟨b, off + k * 3 + 1, none⟩) hlb, ← hB.out.cell (p := ⟨b, off + k * 3 + 2, none⟩) hlb] at y
      obtain ⟨y0, y1, y2⟩ := y
      have hcH := Lib.hid hc
      clear hc
      have hB2 := Lib.hid (hB.out.trans ((alloc1 wr (.cells #[.int .i64 (rt l k).c, .int .i64 (rt l k).f, .int .i64 (rt l k).p] 35)).mono hB.out.size))
      have hre : re l k = if (rt l k).c < 1 ∨ 15 < (rt l k).c then 15
        else if (rt l k).f < 0 ∨ 876599 < (rt l k).f ∨ (rt l k).p < 1 ∨ 1000000000 < (rt l k).p then 1
        else if 0 < k ∧ ((rt l k).c < (rt l (k - 1)).c ∨ (rt l (k - 1)).c = (rt l k).c ∧ (rt l k).f ≤ (rt l (k - 1)).f) then 13 else 0 := rfl
      have hbad : ∀ r, re l k = r → r ≠ 0 → Hid (fst0 (re l) n = r) := fun r e g => Lib.hid (by rw [fst0_hit (re l) k n hz.out (by rw [e]; exact g) hlt, e])
      have hgood : re l k = 0 → Hid (fst0 (re l) (k + 1) = 0) := fun e => Lib.hid (by rw [fst0_succ, if_pos hz.out, e])
      go_upto_region 7 with (fail)
      generalize hC : (rt l k).c = C at *
      generalize hF : (rt l k).f = F at *
      generalize hP : (rt l k).p = P at *
      clear hC hF hP
      by_cases a1 : C < 1 ∨ 15 < C
      · have hfin := hbad 15 (by rw [hre, if_pos a1]) (by omega)
        clear hbad hgood hre
        rcases a1 with a1 | a1
        · have t3 : decide (C < 1) = true := decide_eq_true a1
          clear a1
          go_wp2_with fail
          go_ret
          exact ⟨by rw [hfin.out]; rfl, hB2.out⟩
        · have t3 : decide (C < 1) = false := decide_eq_false (by omega)
          have t4 : decide (15 < C) = true := decide_eq_true a1
          clear a1
          go_wp2_with fail
          go_ret
          exact ⟨by rw [hfin.out]; rfl, hB2.out⟩
      · rw [if_neg a1] at hre
        have t3 : decide (C < 1) = false := decide_eq_false (by omega)
        have t4 : decide (15 < C) = false := decide_eq_false (by omega)
        clear a1
        go_wp2_with fail
        refine (ch.out F _ _ rfl).mono ?_; rintro e w' ⟨rfl, rfl⟩
        by_cases a2 : F < 0 ∨ 876599 < F ∨ P < 1 ∨ 1000000000 < P
        · have hfin := hbad 1 (by rw [hre, if_pos a2]) (by omega)
          clear hbad hgood hre
          by_cases a3 : 0 ≤ F ∧ F ≤ 876599
          · rw [show hrB F = true from decide_eq_true a3]
            by_cases a4 : P < 1
            · have t5 : decide (P < 1) = true := decide_eq_true a4
              clear a2 a3 a4
              go_wp2_with fail
              go_ret
              exact ⟨by rw [hfin.out]; rfl, hB2.out⟩
            · have t5 : decide (P < 1) = false := decide_eq_false a4
              have t6 : decide (1000000000 < P) = true := decide_eq_true (by omega)
              clear a2 a3 a4
              go_wp2_with fail
              go_ret
              exact ⟨by rw [hfin.out]; rfl, hB2.out⟩
          · rw [show hrB F = false from decide_eq_false a3]
            clear a2 a3
            go_wp2_with fail
            go_ret
            exact ⟨by rw [hfin.out]; rfl, hB2.out⟩
        · rw [if_neg a2] at hre
          rw [show hrB F = true from decide_eq_true (by omega)]
          have t5 : decide (P < 1) = false := decide_eq_false (by omega)
          have t6 : decide (1000000000 < P) = false := decide_eq_false (by omega)
          clear a2
          have c0 : (wr.alloc (.cells #[.int .i64 C, .int .i64 F, .int .i64 P] 35)).cell? ⟨wr.heap.size, 0, none⟩ = some (.int .i64 C) := by simp
          have c1 : (wr.alloc (.cells #[.int .i64 C, .int .i64 F, .int .i64 P] 35)).cell? ⟨wr.heap.size, 1, none⟩ = some (.int .i64 F) := by simp
          have hlbr : b < wr.heap.size := Nat.lt_of_lt_of_le hlb hB.out.size
          have hal := Lib.hid (fun j (hj : j < n) => by
            have y := hcH.out j hj
            rw [← hB.out.cell (p := ⟨b, off + j * 3, none⟩) hlb, ← hB.out.cell (p := ⟨b, off + j * 3 + 1, none⟩) hlb] at y
            have z := alloc1 wr (.cells #[.int .i64 C, .int .i64 F, .int .i64 P] 35)
            rw [← z.cell (p := ⟨b, off + j * 3, none⟩) hlbr, ← z.cell (p := ⟨b, off + j * 3 + 1, none⟩) hlbr] at y
            exact And.intro y.1 y.2.1)
          go_upto_region 11 with (fail)
          clear y0 y1 y2
          generalize wr.alloc (.cells #[.int .i64 C, .int .i64 F, .int .i64 P] 35) = W at c0 c1 hal hB2 ⊢
          by_cases hk0 : k = 0
          · have hgd := hgood (by rw [hre, if_neg (fun e => by omega)])
            have t7 : decide (0 < (k : Int)) = false := decide_eq_false (by omega)
            have t8 : decide (0 < k) = false := decide_eq_false (by omega)
            clear hbad hgood hre hk0
            go_wp2_with fail
            go_quiet (fail)
            go_wp2_with fail
            go_roundw
            case rel => exact ⟨k + 1, by omega, by go_num, hgd, Lib.hid (below_drewN hB2.out _)⟩
            case measure => simp [intOf]; omega
          · obtain ⟨z0, z1⟩ := hal.out (k - 1) (by omega)
            have t7 : decide (0 < (k : Int)) = true := decide_eq_true (by omega)
            have t8 : decide (0 < k) = true := decide_eq_true (by omega)
            have q1 : IntKind.i64.wrap ((k : Int) - 1) = (k : Int) - 1 := Go.IntWalk.i64_in _ (by omega)
            have q2 : ((k : Int) - 1).toNat = k - 1 := by omega
            have q3 : 0 ≤ (k : Int) - 1 := by omega
            have q4 : (k : Int) - 1 < (n : Int) := by omega
            generalize (rt l (k - 1)).c = C2 at *
            generalize (rt l (k - 1)).f = F2 at *
            by_cases a6 : C < C2
            · have hfin := hbad 13 (by rw [hre, if_pos ⟨by omega, Or.inl a6⟩]) (by omega)
              have t9 : decide (C < C2) = true := decide_eq_true a6
              clear hbad hgood hre hk0 a6
              go_wp2_with fail
              go_quiet (fail)
              go_wp2_with fail
              go_ret
              exact ⟨by rw [hfin.out]; rfl, below_drewN hB2.out _⟩
            · have t9 : decide (C < C2) = false := decide_eq_false a6
              by_cases a7 : C2 = C
              · have t10 : (C2 == C) = true := by simp [a7]
                by_cases a8 : F ≤ F2
                · have hfin := hbad 13 (by rw [hre, if_pos ⟨by omega, Or.inr ⟨a7, a8⟩⟩]) (by omega)
                  have t11 : decide (F ≤ F2) = true := decide_eq_true a8
                  clear hbad hgood hre hk0 a6 a7 a8
                  go_wp2_with fail
                  go_quiet (fail)
                  go_wp2_with fail
                  go_ret
                  exact ⟨by rw [hfin.out]; rfl, below_drewN hB2.out _⟩
                · have hgd := hgood (by rw [hre, if_neg (fun e => by omega)])
                  have t11 : decide (F ≤ F2) = false := decide_eq_false a8
                  clear hbad hgood hre hk0 a6 a7 a8
                  go_wp2_with fail
                  go_quiet (fail)
                  go_wp2_with fail
                  go_roundw
                  case rel => exact ⟨k + 1, by omega, by go_num, hgd, Lib.hid (below_drewN hB2.out _)⟩
                  case measure => simp [intOf]; omega
              · have hgd := hgood (by rw [hre, if_neg (fun e => by omega)])
                have t10 : (C2 == C) = false := by simp [a7]
                clear hbad hgood hre hk0 a6 a7
                go_wp2_with fail
                go_quiet (fail)
                go_wp2_with fail
                go_roundw
                case rel => exact ⟨k + 1, by omega, by go_num, hgd, Lib.hid (below_drewN hB2.out _)⟩
                case measure => simp [intOf]; omega
    · obtain rfl : k = n := by omega
      have hfin := hz
      go_wp2_with fail
      go_ret
      exact ⟨by rw [hfin.out]; rfl, hB.out⟩
end Go.Proofs.Ytcdfedkcefhdiaa.Exc
