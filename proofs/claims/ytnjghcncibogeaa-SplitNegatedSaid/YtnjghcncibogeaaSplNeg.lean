/- The walk of SplitNegated. -/
import Derived.Test.YtnjghcncibogeaaSplAdds
namespace Go.Proofs.Ytnjghcncibogeaa.Spl
open Go.RowKit Go.Lib Go.Proofs.Ytnjghcncibogeaa.Bas Go.Proofs.Ytnjghcncibogeaa.Dk
set_option linter.unusedVariables false

theorem sg_opp (b : Int) (M : List Nat) (k : Nat) (h : b = 0 → wt M k = 0) : (sg b M).getD k 0 = -((sg (-b) M).getD k 0) := by
  rw [sg_getD, sg_getD]
  rcases Int.lt_trichotomy b 0 with h1 | h1 | h1
  · rw [if_pos h1, if_neg (by omega)]
  · rw [h h1]; simp
  · rw [if_neg (by omega), if_pos (by omega)]; omega

set_option maxHeartbeats 2000000 in
theorem splitNegated (a : Int) (v : Value) (l : List Int) (w : World) (ha : (Lit.int .i64 a).wf = true) (h : IntsAt w v l) (hl : l.length ≤ 9223372036854775807) (hw : ∀ x ∈ l, (Lit.int .i64 x).wf = true) :
    Calls Try.prog 7 #[.int .i64 a, v] w (BoolBe true w) := by
  have hok := cl_ok a
  have c1 := Lib.hid (rclamp_cl a)
  generalize cl a = b at *
  have c2 := Lib.hid (new_any v l w h hl fun x hx => Go.bounds_i64 (hw x hx))
  clear h hl hw ha
  have hok2 : okI (-b) := by unfold okI at *; omega
  obtain ⟨hok3, hok4⟩ := hok
  go_enter Try.func7, Try.ntmps7
  go_wp2_with fail
  refine (c1.out _).mono ?_; rintro e w' ⟨rfl, rfl⟩
  go_wp2_with fail
  refine c2.out.mono ?_; rintro e w1 ⟨d, rfl, hD, hB⟩
  have hB' := Lib.hid hB
  have c3 := Lib.hid (weights_any w.heap.size d v l w1 12 (by omega) (by omega) hD)
  have hge := hD.ge
  clear hB hD c1 c2
  go_wp2_with fail
  refine c3.out.mono ?_; rintro e w2 ⟨u, L, rfl, hL0, hL12, hLx, hLW, hR, hD2, hK⟩
  have hB2 := Lib.hid (hB'.out.trans (hK.below hge hB'.out.size))
  have hLx' : ∀ x ∈ L, x ≤ 17592186044416 := fun x hx => by have := hLx x hx; omega
  have c4 := split_any b u (ofN L) w2 hR.ints (by rw [ofN_length]; omega) (by omega) (by omega)
  rw [splitV_ok b L hL0 (by omega) ⟨hok3, hok4⟩ hLx' hLW] at c4
  have c5 := fun w3 hI => split_any (-b) u (ofN L) w3 hI (by rw [ofN_length]; omega) (by omega) (by omega)
  rw [splitV_ok (-b) L hL0 (by omega) hok2 hLx' hLW, show (-b).natAbs = b.natAbs by omega] at c5
  have c4' := Lib.hid c4
  have c5' := Lib.hid c5
  have hR' := Lib.hid hR
  have hLW' := Lib.hid hLW
  have hsz2 := hB2.out.size
  clear hLx hLx' hLW hR hD2 hK c4 c5 hB' c3 hok2
  go_wp2_with fail
  refine c4'.out.mono ?_; rintro e w3 ⟨p, rfl, hP, hB3⟩
  simp only at hP
  have hU := hR'.out.keep hB3
  have hB4 := Lib.hid (hB2.out.trans (hB3.mono hsz2))
  have c6 := Lib.hid (c5'.out w3 hU.ints)
  have hU' := Lib.hid hU
  have hP' := Lib.hid hP
  have hsz3 := hB4.out.size
  clear hU hP hB3 hB2 hR' c4' c5'
  go_wp2_with fail
  refine c6.out.mono ?_; rintro e w4 ⟨q, rfl, hQ, hB5⟩
  simp only at hQ
  have hU2 := hU'.out.keep hB5
  have hP2 := hP'.out.keep hB5
  have hB6 := Lib.hid (hB4.out.trans (hB5.mono hsz3))
  obtain ⟨g1, k1, rfl, _, _, cu⟩ := row_form hU2 (by rw [ofN_length]; exact hL0)
  obtain ⟨g2, k2, rfl, _, _, cp⟩ := row_form hP2 (by rw [sg_length, parts_length]; exact hL0)
  obtain ⟨g3, k3, rfl, _, _, cq⟩ := row_form hQ (by rw [sg_length, parts_length]; exact hL0)
  have hlp : (sg b (parts b.natAbs L)).length = L.length := by rw [sg_length, parts_length]
  have hlq : (sg (-b) (parts b.natAbs L)).length = L.length := by rw [sg_length, parts_length]
  rw [ofN_length] at *
  rw [hlp] at cp ⊢
  rw [hlq] at cq ⊢
  clear hlp hlq
  obtain ⟨n, hn⟩ : ∃ n, L.length = n := ⟨_, rfl⟩
  have hsb := fun k hk => sg_bd (-b) L hLW'.out k hk (show okI (-b) by unfold okI; omega)
  have hop : ∀ k, k < L.length → (sg b (parts b.natAbs L)).getD k 0 = -((sg (-b) (parts b.natAbs L)).getD k 0) := fun k hk => sg_opp b _ k fun h0 => by
    have e1 : wt (parts b.natAbs L) k = part b.natAbs L k := wt_map_range _ _ _ hk
    have := part_le' b.natAbs L hLW'.out k hk
    rw [h0] at this ⊢
    rw [h0] at e1
    simp at this e1 ⊢
    omega
  rw [show (-b).natAbs = b.natAbs by omega] at hsb
  rw [hn] at hsb hop cu cp cq hL0 hL12 ⊢
  have cu' := Lib.hid cu
  have cp' := Lib.hid cp
  have cq' := Lib.hid cq
  have hsb' := Lib.hid hsb
  have hop' := Lib.hid hop
  have haw := Lib.hid (awake_any w4)
  have hB7 : ∀ w5, Below w4.heap.size w4 w5 → BoolBe true w (.returned (.bool true)) w5 := fun w5 h5 => ⟨rfl, hB6.out.trans (h5.mono hB6.out.size)⟩
  have hB7' := Lib.hid hB7
  clear hU2 hP2 hQ hB5 cu cp cq hsb hop hB7 hn hU' hP' c6
  go_wp2_with fail
  go_loopw [10] (fun i wr => ∃ k : Nat, k ≤ n ∧ i = .int .i64 k ∧ Hid (Dr w4 wr)) (fun i _ => n - (RowKit.intOf i).toNat)
  case atStart => exact ⟨0, Nat.zero_le _, rfl, Lib.hid (Dr.refl _)⟩
  case round =>
    obtain ⟨k, hk, rfl, hD⟩ := hrel
    obtain ⟨nd, rfl⟩ := hD.out
    by_cases hlt : k < n
    · have d1 := cp'.out k hlt
      have d2 := cq'.out k hlt
      obtain ⟨hb3, hb4⟩ := hsb'.out k hlt
      rw [hop'.out k hlt] at d1
      have hlt1 : (k : Int) < (n : Int) := by omega
      generalize (sg (-b) (parts b.natAbs L)).getD k 0 = x at *
      go_wp2_with fail
      go_quiet (fail)
      go_wp2_with fail
      go_roundw
      case rel => exact ⟨k + 1, by omega, by go_num, Lib.hid ⟨_, rfl⟩⟩
      case measure => simp [RowKit.intOf]; omega
    · obtain rfl : k = n := by omega
      have haw2 := Lib.hid (awake_any (w4.drewN nd))
      go_wp2_with fail
      refine haw2.out.mono ?_; rintro e w5 ⟨rfl, h5⟩
      have hfin := Lib.hid (hB7'.out w5 ((below_drewN (Below.refl _ _) nd).trans h5))
      clear h5
      go_wp2_with fail
      go_ret
      exact hfin.out
end Go.Proofs.Ytnjghcncibogeaa.Spl
