/- Validate of package exchange. -/
import Derived.Test.YtcdfedkcefhdiaaExcP0
import Derived.Test.YtcdfedkcefhdiaaExcTable
import Derived.IntWalk
namespace Go.Proofs.Ytcdfedkcefhdiaa.Exc
open Go.RowKit Go.Lib Go.Proofs.Ytcdfedkcefhdiaa.Bas Go.Proofs.Ytcdfedkcefhdiaa.Spl Go.Proofs.Ytcdfedkcefhdiaa.Dk
set_option linter.unusedVariables false

theorem cmpR_neg (c f c2 f2 : Int) : (0 ≤ cmpR c f c2 f2) ↔ ¬ (c < c2 ∨ c = c2 ∧ f < f2) := by
  unfold cmpR orI cmpI
  split <;> split <;> (try split) <;> (try split) <;> omega
theorem cmpR_pos (c f c2 f2 : Int) : (0 < cmpR c f c2 f2) ↔ (c2 < c ∨ c = c2 ∧ f2 < f) := by
  unfold cmpR orI cmpI
  split <;> split <;> (try split) <;> (try split) <;> omega
theorem cmpR_bd (c f c2 f2 : Int) : -1 ≤ cmpR c f c2 f2 ∧ cmpR c f c2 f2 ≤ 1 := by
  unfold cmpR orI cmpI
  split <;> split <;> (try split) <;> (try split) <;> omega
/-- A rate's error, by its numbers: d says whether it has one before it, c0 and f0 are that one's. -/
def re4 (c f p c0 f0 : Int) (d : Bool) : Int :=
  if c < 1 ∨ 15 < c then 15 else if f < 0 ∨ 876599 < f ∨ p < 1 ∨ 1000000000 < p then 1 else if d = true ∧ (c < c0 ∨ c0 = c ∧ f ≤ f0) then 13 else 0
theorem re_four (l : List Rt) (k : Nat) : re l k = re4 (rt l k).c (rt l k).f (rt l k).p (rt l (k - 1)).c (rt l (k - 1)).f (decide (0 < k)) := by
  unfold re re4
  simp only [decide_eq_true_eq]

/-- Five cells of a world stay. -/
def Five (w' : World) (b o g : Nat) (x y z C F : Int) : Prop := w'.cell? ⟨b, o, none⟩ = some (.int .i64 x) ∧ w'.cell? ⟨b, o + 1, none⟩ = some (.int .i64 y) ∧ w'.cell? ⟨b, o + 2, none⟩ = some (.int .i64 z) ∧ w'.cell? ⟨g, 0, none⟩ = some (.int .i64 C) ∧ w'.cell? ⟨g, 1, none⟩ = some (.int .i64 F)
theorem Five.keep {W w' : World} {b o g : Nat} {x y z C F : Int} (h : Five W b o g x y z C F) (hB : Below W.heap.size W w') : Five w' b o g x y z C F := by
  obtain ⟨h0, h1, h2, h3, h4⟩ := h
  have l0 : b < W.heap.size := World.block_lt_of_cell? _ _ h0
  have l3 : g < W.heap.size := World.block_lt_of_cell? _ _ h3
  refine ⟨?_, ?_, ?_, ?_, ?_⟩
  · rw [hB.cell (p := ⟨b, o, none⟩) l0]; exact h0
  · rw [hB.cell (p := ⟨b, o + 1, none⟩) l0]; exact h1
  · rw [hB.cell (p := ⟨b, o + 2, none⟩) l0]; exact h2
  · rw [hB.cell (p := ⟨g, 0, none⟩) l3]; exact h3
  · rw [hB.cell (p := ⟨g, 1, none⟩) l3]; exact h4
theorem heldV {W wk w' : World} {b o g : Nat} {x y z C F : Int} (D0 : Five W b o g x y z C F) (h : Below W.heap.size W wk) (hB : Below wk.heap.size wk w') :
    w'.cell? ⟨b, o, none⟩ = some (.int .i64 x) ∧ w'.cell? ⟨b, o + 1, none⟩ = some (.int .i64 y) ∧ w'.cell? ⟨b, o + 2, none⟩ = some (.int .i64 z) ∧ w'.cell? ⟨g, 0, none⟩ = some (.int .i64 C) ∧ w'.cell? ⟨g, 1, none⟩ = some (.int .i64 F) ∧ Below W.heap.size W w' := by
  have h2 := h.trans (hB.mono h.size)
  obtain ⟨a, b, c, d, e⟩ := D0.keep h2
  exact ⟨a, b, c, d, e, h2⟩

theorem val_long (v : Value) (l : List Rt) (w : World) (h : RatesAt w v l) (hl : 200 < l.length) (hm : l.length ≤ 9223372036854775807) : Calls Try.prog 15 #[v] w (ErrBe 4 w) := by
  obtain ⟨p, c, rfl, -, -⟩ := h
  have t1 : decide (200 < (l.length : Int)) = true := by simp; omega
  have t2 : decide (200 < l.length) = true := by simp; omega
  go_enter Try.func15, Try.ntmps15
  go_wp2_with fail
  go_ret
  exact ⟨rfl, Below.refl _ _⟩
set_option maxHeartbeats 8000000 in
theorem val_short (v : Value) (l : List Rt) (w : World) (h : RatesAt w v l) (hl : l.length ≤ 200) : Calls Try.prog 15 #[v] w (ErrBe (ratesV l) w) := by
  obtain ⟨p, cp, rfl, -, hp⟩ := h
  obtain ⟨n, hn⟩ : ∃ n, l.length = n := ⟨_, rfl⟩
  have hv : ratesV l = fst0 (re l) n := by unfold ratesV; rw [if_neg (by omega), hn]
  rw [hv]
  clear hv
  rw [hn] at hp hl ⊢
  have hp' := Lib.hid hp
  have ccu := Lib.hid isCur_any
  have chr := Lib.hid isHour_any
  have t1 : decide (200 < (n : Int)) = false := by simp; omega
  have t2 : decide (200 < n) = false := by simp; omega
  clear hp hn
  go_enter Try.func15, Try.ntmps15
  go_wp2_with fail
  go_loopw [10] (fun i wr => ∃ k : Nat, k ≤ n ∧ i = .int .i64 k ∧ Hid (fst0 (re l) k = 0) ∧ Hid (Below w.heap.size w wr)) (fun i _ => n - (RowKit.intOf i).toNat)
  case atStart => exact ⟨0, Nat.zero_le _, rfl, Lib.hid rfl, Lib.hid (Below.refl _ _)⟩
  case round =>
    obtain ⟨k, hk, rfl, hz, hB⟩ := hrel
    by_cases hlt : k < n
    · obtain ⟨b, off, rfl, hc⟩ := hp'.out (by omega)
      have hlb : b < w.heap.size := World.block_lt_of_cell? _ _ (hc 0 (by omega)).1
      have y := hc k hlt
      rw [← hB.out.cell (p := ⟨b, off + k * 3, none⟩) hlb, ← hB.out.cell (p := ⟨b, off + k * 3 + 1, none⟩) hlb, ← hB.out.cell (p := ⟨b, off + k * 3 + 2, none⟩) hlb] at y
      have z := Lib.hid (hc (k - 1) (by omega))
      obtain ⟨y0, y1, y2⟩ := y
      have hre := Lib.hid (re_four l k)
      have hbad : ∀ r, re l k = r → r ≠ 0 → Hid (fst0 (re l) n = r) := fun r e g => Lib.hid (by rw [fst0_hit (re l) k n hz.out (by rw [e]; exact g) hlt, e])
      have hgood : re l k = 0 → Hid (fst0 (re l) (k + 1) = 0) := fun e => Lib.hid (by rw [fst0_succ, if_pos hz.out, e])
      have hbad' := Lib.hid hbad
      have hgood' := Lib.hid hgood
      clear hc hbad hgood
      generalize (rt l k).c = C at *
      generalize (rt l k).f = F at *
      generalize (rt l k).p = P at *
      generalize (rt l (k - 1)).c = C0 at *
      generalize (rt l (k - 1)).f = F0 at *
      have hB2 := Lib.hid (hB.out.trans ((alloc1 wr (.cells #[.int .i64 C, .int .i64 F, .int .i64 P] 35)).mono hB.out.size))
      go_wp2_with fail
      generalize hWr : wr.alloc (.cells #[.int .i64 C, .int .i64 F, .int .i64 P] 35) = W at *
      have g0 : W.cell? ⟨wr.heap.size, 0, none⟩ = some (.int .i64 C) := by rw [← hWr]; simp
      have g1 : W.cell? ⟨wr.heap.size, 1, none⟩ = some (.int .i64 F) := by rw [← hWr]; simp
      have g2 : W.cell? ⟨wr.heap.size, 2, none⟩ = some (.int .i64 P) := by rw [← hWr]; simp
      clear hWr y0 y1 y2
      refine (ccu.out C _ _ rfl).mono ?_; rintro e w' ⟨rfl, rfl⟩
      by_cases c1 : 0 ≤ C ∧ C ≤ 15
      · rw [show cuB C = true from decide_eq_true c1]
        by_cases c2 : C = 0
        · have hf := hbad'.out 15 (by rw [hre.out]; unfold re4; rw [if_pos (by omega)]) (by omega)
          have u1 : (C == 0) = true := by simp [c2]
          clear c1 c2 hre hbad' hgood'
          go_wp2_with fail
          go_ret
          exact ⟨ret_i hf.out.symm, hB2.out⟩
        · have u1 : (C == 0) = false := by simp [c2]
          have c3 : ¬ (C < 1 ∨ 15 < C) := by omega
          clear c1 c2
          go_wp2_with fail
          refine (chr.out F _ _ rfl).mono ?_; rintro e w' ⟨rfl, rfl⟩
          by_cases c4 : 0 ≤ F ∧ F ≤ 876599
          · rw [show hrB F = true from decide_eq_true c4]
            by_cases c5 : P < 1
            · have hf := hbad'.out 1 (by rw [hre.out]; unfold re4; rw [if_neg c3, if_pos (by omega)]) (by omega)
              have u2 : decide (P < 1) = true := by simp; omega
              clear c3 c4 c5 hre hbad' hgood'
              go_wp2_with fail
              go_ret
              exact ⟨ret_i hf.out.symm, hB2.out⟩
            · have u2 : decide (P < 1) = false := by simp; omega
              by_cases c6 : 1000000000 < P
              · have hf := hbad'.out 1 (by rw [hre.out]; unfold re4; rw [if_neg c3, if_pos (by omega)]) (by omega)
                have u3 : decide (1000000000 < P) = true := by simp; omega
                clear c3 c4 c5 c6 hre hbad' hgood'
                go_wp2_with fail
                go_ret
                exact ⟨ret_i hf.out.symm, hB2.out⟩
              · have u3 : decide (1000000000 < P) = false := by simp; omega
                have c7 : ¬ (F < 0 ∨ 876599 < F ∨ P < 1 ∨ 1000000000 < P) := by omega
                clear c4 c5 c6
                go_wp2_with fail
                by_cases k0 : k = 0
                · have hf := hgood'.out (by rw [hre.out]; unfold re4; rw [if_neg c3, if_neg c7, if_neg (by simp [k0])])
                  have q1 : decide (0 < k) = false := by simp [k0]
                  have q2 : decide ((0 : Int) < (k : Int)) = false := by simp [k0]
                  clear k0 c3 c7 hre hbad' hgood'
                  go_quiet (fail)
                  go_wp2_with fail
                  go_roundw
                  case rel => exact ⟨k + 1, by omega, by go_num, hf, Lib.hid (below_drewN hB2.out _)⟩
                  case measure => simp [RowKit.intOf]; omega
                · have q1 : decide (0 < k) = true := by simp; omega
                  have q2 : decide ((0 : Int) < (k : Int)) = true := by simp; omega
                  have q3 : 1 ≤ k := by omega
                  have D0 : Five W b (off + (k - 1) * 3) wr.heap.size C0 F0 (rt l (k - 1)).p C F := by
                    refine ⟨?_, ?_, ?_, g0, g1⟩
                    · rw [hB2.out.cell (p := ⟨b, off + (k - 1) * 3, none⟩) hlb]; exact z.out.1
                    · rw [hB2.out.cell (p := ⟨b, off + (k - 1) * 3 + 1, none⟩) hlb]; exact z.out.2.1
                    · rw [hB2.out.cell (p := ⟨b, off + (k - 1) * 3 + 2, none⟩) hlb]; exact z.out.2.2
                  generalize (rt l (k - 1)).p = P0 at *
                  have D0' := Lib.hid D0
                  have bd := cmpR_bd C0 F0 C F
                  have ng := cmpR_neg C0 F0 C F
                  have cR := Lib.hid (compare_any C0 F0 P0 C F)
                  generalize cmpR C0 F0 C F = x at *
                  have i1 : (0 : Int) ≤ (k : Int) - 1 := by omega
                  have i2 : (k : Int) - 1 < (n : Int) := by omega
                  have i3 : ((k : Int) - 1).toNat = k - 1 := by omega
                  have i5 : (1 : Int) ≤ (k : Int) := by omega
                  have i6 : (k : Int) < (n : Int) + 1 := by omega
                  have i4 : IntKind.i64.wrap ((k : Int) - 1) = (k : Int) - 1 := IntWalk.i64_in _ (by omega)
                  have hx : (x ≥ 0 ∧ Hid (fst0 (re l) n = 13)) ∨ (x < 0 ∧ Hid (fst0 (re l) (k + 1) = 0)) := by
                    by_cases h0 : 0 ≤ x
                    · left; exact ⟨h0, hbad'.out 13 (by rw [hre.out]; unfold re4; rw [if_neg c3, if_neg c7, if_pos ⟨by simpa using q1, by have := ng.1 h0; omega⟩]) (by omega)⟩
                    · right; exact ⟨by omega, hgood'.out (by rw [hre.out]; unfold re4; rw [if_neg c3, if_neg c7, if_neg (fun g => h0 (ng.2 (by have := g.2; omega)))])⟩
                  obtain ⟨a0, a1, a2, a3, a4⟩ := D0
                  clear k0 c3 c7 hre hbad' hgood' ng g0 g1 g2 z
                  go_region_held3 (fun w' => w'.cell? ⟨b, off + (k - 1) * 3, none⟩ = some (.int .i64 C0) ∧ w'.cell? ⟨b, off + (k - 1) * 3 + 1, none⟩ = some (.int .i64 F0) ∧ w'.cell? ⟨b, off + (k - 1) * 3 + 2, none⟩ = some (.int .i64 P0) ∧ w'.cell? ⟨wr.heap.size, 0, none⟩ = some (.int .i64 C) ∧ w'.cell? ⟨wr.heap.size, 1, none⟩ = some (.int .i64 F) ∧ Below W.heap.size W w')
                    (first | exact ⟨a0, a1, a2, a3, a4, below_drewN (Below.refl _ _) 1⟩ | exact heldV D0'.out (by first | assumption | exact below_drewN (Below.refl _ _) 1) hBx)
                    (first | (go_at_call 33; with_reducible refine (cR.out _).mono ?_; rintro e w' ⟨rfl, hBx⟩))
                  rename_i hh
                  have B9 := Lib.hid (hB2.out.trans (hh.2.2.2.2.2.mono hB2.out.size))
                  clear hh
                  rcases hx with ⟨h0, hf⟩ | ⟨h0, hf⟩
                  · have u5 : decide (0 ≤ x) = true := by simp; omega
                    go_wp2_with fail
                    go_ret
                    exact ⟨ret_i hf.out.symm, B9.out⟩
                  · have u5 : decide (0 ≤ x) = false := by simp; omega
                    go_wp2_with fail
                    go_roundw
                    case rel => exact ⟨k + 1, by omega, by go_num, hf, B9⟩
                    case measure => simp [RowKit.intOf]; omega
          · rw [show hrB F = false from decide_eq_false c4]
            have hf := hbad'.out 1 (by rw [hre.out]; unfold re4; rw [if_neg c3, if_pos (by omega)]) (by omega)
            clear c3 c4 hre hbad' hgood'
            go_wp2_with fail
            go_ret
            exact ⟨ret_i hf.out.symm, hB2.out⟩
      · rw [show cuB C = false from decide_eq_false c1]
        have hf := hbad'.out 15 (by rw [hre.out]; unfold re4; rw [if_pos (by omega)]) (by omega)
        clear c1 hre hbad' hgood'
        go_wp2_with fail
        go_ret
        exact ⟨ret_i hf.out.symm, hB2.out⟩
    · obtain rfl : k = n := by omega
      clear hlt
      have hz' := hz.out
      go_wp2_with fail
      go_ret
      exact ⟨ret_i hz.out.symm, hB.out⟩
theorem val_any : ValOf 15 := fun v l w h hm => by
  by_cases hl : 200 < l.length
  · have e : ratesV l = 4 := by unfold ratesV; rw [if_pos hl]
    rw [e]; exact val_long v l w h hl hm
  · exact val_short v l w h (by omega)
end Go.Proofs.Ytcdfedkcefhdiaa.Exc
