/- The walk of SplitEven. -/
import Derived.Test.YtnjghcncibogeaaSplCaps
namespace Go.Proofs.Ytnjghcncibogeaa.Spl
open Go.RowKit Go.Lib Go.Proofs.Ytnjghcncibogeaa.Bas Go.Proofs.Ytnjghcncibogeaa.Dk
set_option linter.unusedVariables false

theorem W_rep (n x : Nat) : W (List.replicate n x) = n * x := by
  unfold W
  rw [List.length_replicate, ← S_const]
  exact S_congr fun i hi => wt_rep n x i hi
theorem rep_snoc (k : Nat) (x : Nat) : ofN (List.replicate k x) ++ [(x : Int)] = ofN (List.replicate (k + 1) x) := by
  unfold ofN
  rw [List.replicate_succ', List.map_append]; rfl
theorem even_le (a n x j : Nat) (h : j + 1 < n) : part a (List.replicate n x) (j + 1) ≤ part a (List.replicate n x) j ∧ part a (List.replicate n x) 0 ≤ part a (List.replicate n x) (j + 1) + 1 := by
  rw [part_even a n x (j + 1) h, part_even a n x j (by omega), part_even a n x 0 (by omega)]
  constructor
  · split <;> split <;> omega
  · split <;> split <;> omega

set_option maxRecDepth 100000 in
set_option maxHeartbeats 2000000 in
theorem splitEven (a n c : Int) (w : World) (ha : (Lit.int .i64 a).wf = true) (hn : (Lit.int .u8 n).wf = true) (hc : (Lit.int .i64 c).wf = true) :
    Calls Try.prog 9 #[.int .i64 a, .int .u8 n, .int .i64 c] w (BoolBe true w) := by
  obtain ⟨i0, hi, hz0, hz1, hz2⟩ := info_parts info_int
  have hok := cl_ok a
  have c1 := Lib.hid (rclamp_cl a)
  generalize cl a = b at *
  obtain ⟨hn0, hn1⟩ := Go.bounds_u8 hn
  obtain ⟨hc0, hc1⟩ := Go.bounds_i64 hc
  have c2 := Lib.hid (fun w => within_any c 17592186044416 w (by omega) (by omega) hc0 hc1)
  obtain ⟨hx0, hx1⟩ := wi_bd c 17592186044416 (by omega)
  obtain ⟨x, hx⟩ : ∃ x : Nat, 1 + wi c 17592186044416 = (x : Int) := ⟨(1 + wi c 17592186044416).toNat, by omega⟩
  have hx2 : 0 < x := by omega
  have hx3 : x ≤ 17592186044416 := by omega
  generalize wi c 17592186044416 = y at *
  obtain ⟨N, hN⟩ : ∃ N : Nat, n % 64 = (N : Int) := ⟨(n % 64).toNat, by omega⟩
  have hN2 : N < 64 := by omega
  obtain ⟨A, hA⟩ : ∃ A : Nat, max b (-b) = (A : Int) := ⟨b.natAbs, by omega⟩
  obtain ⟨hb0, hb1⟩ := hok
  have hA2 : A ≤ 17592186044416 := by omega
  clear ha hn hc hc0 hc1 hx0 hx1
  go_enter Try.func9, Try.ntmps9
  go_wp2_with fail
  refine (c1.out _).mono ?_; rintro e w' ⟨rfl, rfl⟩
  go_wp2_with fail
  go_loopw [7, 8] (fun z i wr => ∃ k : Nat, k ≤ N + 1 ∧ i = .int .i64 k ∧ Hid (Row 3 .i64 w.heap.size wr z (ofN (List.replicate k x))) ∧ Hid (Below w.heap.size w wr)) (fun _ i _ => N + 1 - (RowKit.intOf i).toNat)
  case atStart => exact ⟨0, Nat.zero_le _, rfl, Lib.hid (row_nil _ _), Lib.hid (Below.refl _ _)⟩
  case round =>
    obtain ⟨k, hk, rfl, hR, hB⟩ := hrel
    by_cases hlt : k ≤ N
    · go_wp2_with fail
      refine (c2.out _).mono ?_; rintro e w' ⟨rfl, rfl⟩
      have hsz := hB.out.size
      go_wp2_with (at_builtin; refine wpList_append_one rfl (.tmp 25) (.tmp 29) 22 rfl w.heap.size 3 .i64 i0 8 Try.underlying22 hi hz0 hz1 hz2 (by omega) u7 (ofN (List.replicate k x)) rfl hR.out x rfl (by rw [ofN_length, List.length_replicate]; omega) (by omega) ?_; intro v' w4 hown hgrow)
      rw [rep_snoc] at hown
      have hbl := hR.out.block
      have hB2 := Lib.hid (hB.out.grown hgrow (by omega) (fun g hg => (hbl g hg).1))
      have hown' := Lib.hid hown
      clear hown hgrow hbl
      go_wp2_with fail
      go_roundw
      case rel => exact ⟨k + 1, by omega, by go_num, hown', hB2⟩
      case measure => simp [RowKit.intOf]; omega
    · obtain rfl : k = N + 1 := by omega
      have hL0 : 0 < (List.replicate (N + 1) x).length := by simp
      have hL64 : (List.replicate (N + 1) x).length ≤ 64 := by simp; omega
      have hLx : ∀ y ∈ List.replicate (N + 1) x, y ≤ 17592186044416 := fun y hy => by rw [(List.mem_replicate.1 hy).2]; exact hx3
      have hLW : 0 < W (List.replicate (N + 1) x) := by rw [W_rep]; exact Nat.mul_pos (by omega) hx2
      have c4 := split_any (A : Int) u7 (ofN (List.replicate (N + 1) x)) wr hR.out.ints (by rw [ofN_length]; omega) (by omega) (by omega)
      rw [splitV_ok (A : Int) _ hL0 hL64 (by unfold okI; omega) hLx hLW, sg_pos, Int.natAbs_natCast] at c4
      have c4' := Lib.hid c4
      have hbp := fun j hj => part_le' A (List.replicate (N + 1) x) hLW j hj
      have hevn := fun j hj => even_le A (N + 1) x j hj
      have hpl : (parts A (List.replicate (N + 1) x)).length = N + 1 := by simp [parts]
      have hpe : ∀ j, j < N + 1 → wt (parts A (List.replicate (N + 1) x)) j = part A (List.replicate (N + 1) x) j := fun j hj => wt_map_range _ _ _ (by simpa using hj)
      rw [List.length_replicate] at hbp
      have hbp' := Lib.hid hbp
      have hevn' := Lib.hid hevn
      have hpl' := Lib.hid hpl
      have hpe' := Lib.hid hpe
      have hsz := hB.out.size
      obtain ⟨p7, q7, hu7, _⟩ := hR.out.shape
      rw [ofN_length, List.length_replicate] at hu7
      subst hu7
      have hn1 : ((N + 1 : Nat) : Int) = (N : Int) + 1 := by omega
      have hn1' := Lib.hid hn1
      clear c4 hbp hevn hpl hpe hL0 hL64 hLx hLW hn1
      go_wp2_with fail
      refine c4'.out.mono ?_; rintro e w3 ⟨p, rfl, hP, hB3⟩
      simp only at hP
      have hB4 := Lib.hid (hB.out.trans (hB3.mono hsz))
      obtain ⟨g2, k2, rfl, _, _, cp⟩ := row_form hP (by rw [ofN_length, hpl'.out]; omega)
      have hlp : (ofN (parts A (List.replicate (N + 1) x))).length = N + 1 := by rw [ofN_length, hpl'.out]
      rw [hlp] at cp ⊢
      have cp2 : ∀ j, j < N + 1 → w3.cell? ⟨g2, j, none⟩ = some (.int .i64 (part A (List.replicate (N + 1) x) j)) := fun j hj => by rw [cp j hj, ofN_getD, hpe'.out j hj]
      have cp' := Lib.hid cp2
      have hB7 : ∀ w5, Below w3.heap.size w3 w5 → BoolBe true w (.returned (.bool true)) w5 := fun w5 h5 => ⟨rfl, hB4.out.trans (h5.mono hB4.out.size)⟩
      have hB7' := Lib.hid hB7
      have d0 := cp2 0 (by omega)
      have b0 := hbp'.out 0 (by omega)
      obtain ⟨z, hz⟩ : ∃ z, part A (List.replicate (N + 1) x) 0 = z := ⟨_, rfl⟩
      rw [hz] at d0 b0
      have hz' := Lib.hid hz
      clear hP hB3 cp cp2 hlp hB7 hz c4'
      generalize hM : N + 1 = M at *
      go_wp2_with fail
      go_loopw [11] (fun i wr => ∃ k : Nat, k + 1 ≤ M ∧ i = .int .i64 ((k : Int) + 1) ∧ Hid (Dr w3 wr)) (fun i _ => M - (RowKit.intOf i).toNat)
      case atStart => exact ⟨0, by omega, by simp, Lib.hid (Dr.refl _)⟩
      case round =>
        obtain ⟨k, hk, rfl, hD⟩ := hrel
        obtain ⟨nd, rfl⟩ := hD.out
        by_cases hlt : k + 1 < M
        · have d1 := cp'.out k (by omega)
          have d2 := cp'.out (k + 1) hlt
          obtain ⟨h1, h2⟩ := hevn'.out k hlt
          rw [hz'.out] at h2
          have b1 := hbp'.out k (by omega)
          generalize part A (List.replicate M x) k = u at *
          generalize part A (List.replicate M x) (k + 1) = t at *
          have t1 : decide (u < t) = false := by simp; omega
          have t2 : decide ((u : Int) < (t : Int)) = false := by simp; omega
          have t3 : decide ((t : Int) < (z : Int) - 1) = false := by simp; omega
          have t4 : IntKind.i64.wrap ((k : Int) + 1 - 1) = (k : Int) := by rw [wrap_i] <;> omega
          have t5 : (0 : Int) < (M : Int) := by omega
          have t6 : (k : Int) < (M : Int) := by omega
          have t7 : (k : Int) + 1 < (M : Int) := by omega
          go_wp2_with fail
          go_quiet (fail)
          go_wp2_with fail
          go_roundw
          case rel => exact ⟨k + 1, by omega, by go_num, Lib.hid ⟨_, rfl⟩⟩
          case measure => simp [RowKit.intOf]; omega
        · obtain rfl : k + 1 = M := by omega
          have haw2 := Lib.hid (awake_any (w3.drewN nd))
          go_wp2_with fail
          refine haw2.out.mono ?_; rintro e w5 ⟨rfl, h5⟩
          have hfin := Lib.hid (hB7'.out w5 ((below_drewN (Below.refl _ _) nd).trans h5))
          clear h5
          go_wp2_with fail
          go_ret
          exact hfin.out
end Go.Proofs.Ytnjghcncibogeaa.Spl
