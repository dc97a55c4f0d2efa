/- The walk of SplitAdds. -/
import Derived.Test.YtnjghcncibogeaaSplLaw0
import Derived.Test.YtnjghcncibogeaaIntsB
namespace Go.Proofs.Ytnjghcncibogeaa.Spl
open Go.RowKit Go.Lib Go.Proofs.Ytnjghcncibogeaa.Bas Go.Proofs.Ytnjghcncibogeaa.Dk
set_option linter.unusedVariables false

/-- The sum of the first k, with the sign of a. -/
def zs (a : Int) (M : List Nat) (k : Nat) : Int := if a < 0 then -((S (wt M) k : Nat) : Int) else ((S (wt M) k : Nat) : Int)
theorem zs_step (a : Int) (M : List Nat) (k : Nat) : zs a M (k + 1) = zs a M k + (sg a M).getD k 0 := by
  unfold zs; rw [sg_getD]; simp only [S]; split <;> omega
theorem parts_S (a : Nat) (L : List Nat) (k : Nat) (hk : k ≤ L.length) : S (wt (parts a L)) k = S (part a L) k :=
  S_congr fun i hi => wt_map_range _ _ _ (by omega)
theorem zs_full (a : Int) (L : List Nat) (h : 0 < W L) : zs a (parts a.natAbs L) L.length = a := by
  unfold zs
  rw [parts_S _ _ _ (Nat.le_refl _), parts_sum _ _ h]
  split <;> omega
theorem zs_bd (a : Int) (L : List Nat) (h : 0 < W L) (k : Nat) (hk : k ≤ L.length) (ha : okI a) : -17592186044416 ≤ zs a (parts a.natAbs L) k ∧ zs a (parts a.natAbs L) k ≤ 17592186044416 := by
  unfold zs
  rw [parts_S _ _ _ hk]
  have h1 : S (part a.natAbs L) k ≤ S (part a.natAbs L) L.length := S_le_of_le hk
  rw [parts_sum _ _ h] at h1
  unfold okI at ha
  split <;> omega
theorem sg_bd (a : Int) (L : List Nat) (h : 0 < W L) (k : Nat) (hk : k < L.length) (ha : okI a) : -17592186044416 ≤ (sg a (parts a.natAbs L)).getD k 0 ∧ (sg a (parts a.natAbs L)).getD k 0 ≤ 17592186044416 := by
  rw [sg_getD]
  have e1 : wt (parts a.natAbs L) k = part a.natAbs L k := wt_map_range _ _ _ hk
  have := part_le' a.natAbs L h k hk
  unfold okI at ha
  rw [e1]
  split <;> omega
theorem sg_zero (a : Int) (L : List Nat) (h : 0 < W L) (k : Nat) (hk : k < L.length) (hz : wt L k = 0) : (sg a (parts a.natAbs L)).getD k 0 = 0 := by
  rw [sg_getD]
  have e1 : wt (parts a.natAbs L) k = part a.natAbs L k := wt_map_range _ _ _ hk
  rw [e1, part_zero _ _ h k hz]; simp
theorem parts_length (a : Nat) (L : List Nat) : (parts a L).length = L.length := by simp [parts]

set_option maxHeartbeats 2000000 in
theorem splitAdds (a : Int) (v : Value) (l : List Int) (w : World) (ha : (Lit.int .i64 a).wf = true) (h : IntsAt w v l) (hl : l.length ≤ 9223372036854775807) (hw : ∀ x ∈ l, (Lit.int .i64 x).wf = true) :
    Calls Try.prog 4 #[.int .i64 a, v] w (BoolBe true w) := by
  have hok := cl_ok a
  have c1 := Lib.hid (rclamp_cl a)
  generalize cl a = b at *
  have c2 := Lib.hid (new_any v l w h hl fun x hx => Go.bounds_i64 (hw x hx))
  clear h hl hw ha
  go_enter Try.func4, Try.ntmps4
  go_wp2_with fail
  refine (c1.out _).mono ?_; rintro e w' ⟨rfl, rfl⟩
  go_wp2_with fail
  refine c2.out.mono ?_; rintro e w1 ⟨d, rfl, hD, hB⟩
  have hB' := Lib.hid hB
  have c3 := Lib.hid (weights_any w.heap.size d v l w1 12 (by omega) (by omega) hD)
  have hge := hD.ge
  clear hB hD c1 c2
  go_wp2_with fail
  refine c3.out.mono ?_; rintro e w2 ⟨u, L, rfl, hL0, hL12, hLx, hLW, hR, hD2, hK⟩
  have hB2 := Lib.hid (hB'.out.trans (hK.below hge hB'.out.size))
  have c4 := split_any b u (ofN L) w2 hR.ints (by rw [ofN_length]; omega) (by unfold okI at hok; omega) (by unfold okI at hok; omega)
  rw [splitV_ok b L hL0 (by omega) hok (fun x hx => by have := hLx x hx; omega) hLW] at c4
  have c4' := Lib.hid c4
  have hR' := Lib.hid hR
  have hLW' := Lib.hid hLW
  have hok' := Lib.hid hok
  have hsz2 := hB2.out.size
  clear hLx hLW hR hD2 hK c4 hok hB' c3
  go_wp2_with fail
  refine c4'.out.mono ?_; rintro e w3 ⟨p, rfl, hP, hB3⟩
  simp only at hP
  have hU := hR'.out.keep hB3
  have hB4 := Lib.hid (hB2.out.trans (hB3.mono hsz2))
  obtain ⟨g1, k1, rfl, _, _, cu⟩ := row_form hU (by rw [ofN_length]; exact hL0)
  obtain ⟨g2, k2, rfl, _, _, cp⟩ := row_form hP (by rw [sg_length, parts_length]; exact hL0)
  rw [ofN_length] at *
  rw [sg_length, parts_length] at *
  obtain ⟨n, hn⟩ : ∃ n, L.length = n := ⟨_, rfl⟩
  have hzf := zs_full b L hLW'.out
  have hzb := fun k hk => zs_bd b L hLW'.out k hk hok'.out
  have hsb := fun k hk => sg_bd b L hLW'.out k hk hok'.out
  have hsz := fun k hk => sg_zero b L hLW'.out k hk
  rw [hn] at hzf hzb hsb hsz cu cp hL0 hL12 ⊢
  have cu' := Lib.hid cu
  have cp' := Lib.hid cp
  have hzf' := Lib.hid hzf
  have hzb' := Lib.hid hzb
  have hsb' := Lib.hid hsb
  have hsz' := Lib.hid hsz
  have haw := Lib.hid (awake_any w3)
  have hB5 : ∀ w5, Below w3.heap.size w3 w5 → BoolBe true w (.returned (.bool true)) w5 := fun w5 h5 => ⟨rfl, hB4.out.trans (h5.mono hB4.out.size)⟩
  have hB5' := Lib.hid hB5
  clear hU hP hB3 cu cp hzf hzb hsb hsz hB5 hn hB2 hR' c4'
  go_wp2_with fail
  go_loop [8, 9] (fun z i => ∃ k : Nat, k ≤ n ∧ i = .int .i64 k ∧ ∃ y : Int, z = .int .i64 y ∧ Hid (y = zs b (parts b.natAbs L) k)) (fun _ i => n - (RowKit.intOf i).toNat)
  case atStart => exact ⟨0, Nat.zero_le _, rfl, 0, rfl, Lib.hid (by simp [zs, S])⟩
  case round =>
    obtain ⟨k, hk, rfl, y, rfl, hy⟩ := hrel
    have hb1 := hzb'.out k hk
    rw [← hy.out] at hb1
    obtain ⟨hb1, hb2⟩ := hb1
    by_cases hlt : k < n
    · have d1 := cu'.out k hlt
      have d2 := cp'.out k hlt
      obtain ⟨hb3, hb4⟩ := hsb'.out k hlt
      have hst := zs_step b (parts b.natAbs L) k
      rw [← hy.out] at hst
      have hst' := Lib.hid hst
      have hz := hsz'.out k hlt
      rw [ofN_getD] at d1
      clear hst
      generalize (sg b (parts b.natAbs L)).getD k 0 = x at *
      by_cases hwz : wt L k = 0
      · have hx0 := hz hwz
        subst hx0
        rw [hwz] at d1
        clear hz hwz
        go_wp2_with fail
        go_round
        case rel => exact ⟨k + 1, by omega, by go_num, y, by simp, Lib.hid (by rw [hst'.out]; simp)⟩
        case measure => simp [RowKit.intOf]; omega
      · clear hz
        generalize wt L k = q at *
        have hq : ((q : Int) == 0) = false := by simp; omega
        go_wp2_with fail
        go_round
        case rel => exact ⟨k + 1, by omega, by go_num, y + x, rfl, Lib.hid hst'.out.symm⟩
        case measure => simp [RowKit.intOf]; omega
    · obtain rfl : k = n := by omega
      have hyb : y = b := by rw [hy.out]; exact hzf'.out
      subst hyb
      go_wp2_with fail
      refine haw.out.mono ?_; rintro e w5 ⟨rfl, h5⟩
      have hfin := Lib.hid (hB5'.out w5 h5)
      clear h5
      go_wp2_with fail
      go_ret
      exact hfin.out
end Go.Proofs.Ytnjghcncibogeaa.Spl
