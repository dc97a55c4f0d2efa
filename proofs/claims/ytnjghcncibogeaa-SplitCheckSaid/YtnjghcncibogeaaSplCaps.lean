/- Reduce at weights that are valid; the walk of SplitCaps. -/
import Derived.Test.YtnjghcncibogeaaSplAdds
namespace Go.Proofs.Ytnjghcncibogeaa.Spl
open Go.RowKit Go.Lib Go.Proofs.Ytnjghcncibogeaa.Bas Go.Proofs.Ytnjghcncibogeaa.Dk
set_option linter.unusedVariables false

/-- What Reduce returns. -/
def redL (l : List Nat) (m : Nat) : List Nat := if W l ≤ m then l else parts m l
theorem redL_length (l : List Nat) (m : Nat) : (redL l m).length = l.length := by unfold redL; split <;> simp [parts]
theorem sg_pos (m : Nat) (M : List Nat) : sg (m : Int) M = ofN M := by
  unfold sg ofN
  apply List.map_congr_left; intro x _; rw [if_neg (by omega)]
theorem redL_cap (l : List Nat) (m i : Nat) (hi : i < l.length) : wt (redL l m) i ≤ wt l i := by
  unfold redL
  split
  · exact Nat.le_refl _
  · have e1 : wt (parts m l) i = part m l i := wt_map_range _ _ _ hi
    rw [e1]; exact part_cap m l (by omega) i
theorem redL_sum (l : List Nat) (m : Nat) : S (wt (redL l m)) l.length = min (W l) m := by
  unfold redL
  split
  · have : S (wt l) l.length = W l := rfl
    omega
  · rw [parts_S _ _ _ (Nat.le_refl _), parts_sum _ _ (by omega)]; omega

set_option maxHeartbeats 1000000 in
theorem reduce_ok (v : Value) (l : List Nat) (m : Nat) (w : World) (h : IntsAt w v (ofN l)) (hn : 0 < l.length) (h64 : l.length ≤ 64) (hl : ∀ x ∈ l, x ≤ 17592186044416) (hm : m ≤ 17592186044416) (hW : 0 < W l) :
    Calls Try.prog 21 #[v, .int .i64 m] w (Out2 (ofN (redL l m), 0) w) := by
  have hokl : ∀ x ∈ ofN l, okW x := ofN_ok l hl
  have c1 := Lib.hid (inr_var (m : Int) true (by rw [decide_eq_true]; unfold okW; omega))
  have c2 := Lib.hid (allin_any v (ofN l) true (by rw [decide_eq_true hokl]) w h (by rw [ofN_length]; omega))
  obtain ⟨s, hs⟩ : ∃ s, W l = s := ⟨_, rfl⟩
  have c3 := Lib.hid (sum_any v l w h h64 (fun x hx => by have := hl x hx; omega) s hs)
  by_cases hle : s ≤ m
  · have e : redL l m = l := by unfold redL; rw [hs, if_pos hle]
    rw [e]
    obtain ⟨p, c, rfl, hp⟩ := h
    rw [ofN_length] at *
    obtain ⟨b, off, rfl, hc⟩ := hp hn
    have c4 := Try.slices_Clone_int b off l.length c (ofN l) w (by rw [ofN_length]; omega) (by omega) (by rw [ofN_length]; exact hc)
    have c4' := Lib.hid c4
    have hlen := Lib.hid (ofN_length l)
    have htk : (ofN l).take l.length = ofN l := List.take_of_length_le (by rw [ofN_length]; exact Nat.le_refl _)
    have htk' := Lib.hid htk
    have hnc : decide (64 < (l.length : Int)) = false := by simp; omega
    have hsm : (s : Int) ≤ (m : Int) := by omega
    clear hc hp c4 hs hl hokl e htk
    generalize l.length = n at *
    go_enter Try.func21, Try.ntmps21
    go_wp2_with fail
    refine (c1.out _).mono ?_; rintro e w' ⟨rfl, rfl⟩
    go_wp2_with fail
    refine c2.out.mono ?_; rintro e w' ⟨rfl, rfl⟩
    go_wp2_with fail
    refine c3.out.mono ?_; rintro e w' ⟨rfl, rfl⟩
    go_wp2_with fail
    refine c4'.out.mono ?_; rintro e w' ⟨u, rfl, hown, _, hB⟩
    have hfin : Out2 (ofN l, 0) w (.returned (.tuple #[u, .int .i64 0])) w' := ⟨u, rfl, by unfold Row; rw [hlen.out]; rw [htk'.out] at hown; exact hown, hB⟩
    have hfin' := Lib.hid hfin
    clear hfin hown hB
    go_wp2_with fail
    go_ret2
    exact hfin'.out
  · have e : redL l m = parts m l := by unfold redL; rw [hs, if_neg hle]
    rw [e]
    have c4 := split_any (m : Int) v (ofN l) w h (by rw [ofN_length]; omega) (by omega) (by omega)
    rw [splitV_ok (m : Int) l hn h64 (by unfold okI; omega) hl hW, sg_pos, Int.natAbs_natCast] at c4
    have c4' := Lib.hid c4
    have hlen : (parts m l).length = l.length := by simp [parts]
    obtain ⟨p, c, rfl, hp⟩ := h
    rw [ofN_length] at *
    have hnc : decide (64 < (l.length : Int)) = false := by simp; omega
    have hsm : ¬ (s : Int) ≤ (m : Int) := by omega
    clear hp c4 hs hl hokl e hlen hW
    generalize l.length = n at *
    go_enter Try.func21, Try.ntmps21
    go_wp2_with fail
    refine (c1.out _).mono ?_; rintro e w' ⟨rfl, rfl⟩
    go_wp2_with fail
    refine c2.out.mono ?_; rintro e w' ⟨rfl, rfl⟩
    go_wp2_with fail
    refine c3.out.mono ?_; rintro e w' ⟨rfl, rfl⟩
    go_wp2_with fail
    refine c4'.out.mono ?_; rintro e w' ⟨u, rfl, hR, hB⟩
    have hfin : Out2 (ofN (parts m l), 0) w (.returned (.tuple #[u, .int .i64 0])) w' := ⟨u, rfl, hR, hB⟩
    have hfin' := Lib.hid hfin
    clear hfin hR hB
    go_wp2_with fail
    go_ret2
    exact hfin'.out

set_option maxRecDepth 100000 in
set_option maxHeartbeats 2000000 in
theorem splitCaps (v : Value) (l : List Int) (w : World) (h : IntsAt w v l) (hl : l.length ≤ 9223372036854775807) (hw : ∀ x ∈ l, (Lit.int .i64 x).wf = true) :
    Calls Try.prog 10 #[v] w (BoolBe true w) := by
  have c2 := Lib.hid (new_any v l w h hl fun x hx => Go.bounds_i64 (hw x hx))
  clear h hl hw
  go_enter Try.func10, Try.ntmps10
  go_wp2_with fail
  refine c2.out.mono ?_; rintro e w0 ⟨d, rfl, hD, hB⟩
  have hB' := Lib.hid hB
  have hge := hD.ge
  have hsz0 := hB.size
  have c3 := Lib.hid (upto_any w.heap.size d v l w0 2147483648 (by omega) hD)
  clear hB hD c2
  go_wp2_with fail
  refine c3.out.mono ?_; rintro e w1 ⟨m, hm, rfl, hD1, hK1⟩
  have c4 := Lib.hid (weights_any w.heap.size d v l w1 20 (by omega) (by omega) hD1)
  have hB1 := Lib.hid (hB'.out.trans (hK1.below hge hsz0))
  have hsz1 := hB1.out.size
  clear hD1 hK1 c3 hB'
  go_wp2_with fail
  refine c4.out.mono ?_; rintro e w2 ⟨u, L, rfl, hL0, hL12, hLx, hLW, hR, hD2, hK⟩
  have hB2 := Lib.hid (hB1.out.trans (hK.below hge hsz1))
  have hLx' : ∀ x ∈ L, x ≤ 17592186044416 := fun x hx => by have := hLx x hx; omega
  have c5 := Lib.hid (reduce_ok u L m w2 hR.ints hL0 (by omega) hLx' (by omega) hLW)
  have hR' := Lib.hid hR
  have hLx2 := Lib.hid hLx
  have hsz2 := hB2.out.size
  clear hLx hLx' hLW hR hD2 hK hB1 c4
  go_wp2_with fail
  refine c5.out.mono ?_; rintro e w3 ⟨p, rfl, hP, hB3⟩
  simp only at hP
  have hU := hR'.out.keep hB3
  have hB4 := Lib.hid (hB2.out.trans (hB3.mono hsz2))
  obtain ⟨g1, k1, rfl, _, _, cu⟩ := row_form hU (by rw [ofN_length]; exact hL0)
  obtain ⟨g2, k2, rfl, _, _, cp⟩ := row_form hP (by rw [ofN_length, redL_length]; exact hL0)
  have hlp : (ofN (redL L m)).length = L.length := by rw [ofN_length, redL_length]
  rw [hlp] at cp ⊢
  have hlu : (ofN L).length = L.length := ofN_length L
  rw [hlu] at cu ⊢
  have hcap := fun k hk => redL_cap L m k hk
  have hsum := redL_sum L m
  have hbd := fun k hk => S_wt_le L k hk 1073741825 hLx2.out
  have hbd2 : ∀ k, k ≤ L.length → S (wt (redL L m)) k ≤ S (wt L) k := fun k hk => S_mono fun i hi => redL_cap L m i (by omega)
  have hbd3 := fun k hk => S_wt_lt L k hk 1073741825 hLx2.out
  obtain ⟨n, hn⟩ : ∃ n, L.length = n := ⟨_, rfl⟩
  have hWS : W L = S (wt L) n := by rw [← hn]; rfl
  rw [hWS] at hsum
  rw [hn] at hcap hsum hbd hbd2 hbd3 cu cp hL0 hL12 ⊢
  have cu' := Lib.hid cu
  have cp' := Lib.hid cp
  have hcap' := Lib.hid hcap
  have hsum' := Lib.hid hsum
  have hbd' := Lib.hid hbd
  have hbd2' := Lib.hid hbd2
  have hbd3' := Lib.hid hbd3
  have hB7 : ∀ w5, Below w3.heap.size w3 w5 → BoolBe true w (.returned (.bool true)) w5 := fun w5 h5 => ⟨rfl, hB4.out.trans (h5.mono hB4.out.size)⟩
  have hB7' := Lib.hid hB7
  clear hU hP hB3 cu cp hcap hsum hbd hbd2 hbd3 hB7 hn hR' c5 hlp hlu hWS
  go_wp2_with fail
  go_loopw [8, 9, 10] (fun x y i wr => ∃ k : Nat, k ≤ n ∧ i = .int .i64 k ∧ (∃ xs : Nat, x = .int .i64 xs ∧ Hid (xs = S (wt (redL L m)) k)) ∧ (∃ ys : Nat, y = .int .i64 ys ∧ Hid (ys = S (wt L) k)) ∧ Hid (Dr w3 wr)) (fun _ _ i _ => n - (RowKit.intOf i).toNat)
  case atStart => exact ⟨0, Nat.zero_le _, rfl, ⟨0, rfl, Lib.hid rfl⟩, ⟨0, rfl, Lib.hid rfl⟩, Lib.hid (Dr.refl _)⟩
  case round =>
    obtain ⟨k, hk, rfl, ⟨xs, rfl, hxs⟩, ⟨ys, rfl, hys⟩, hD⟩ := hrel
    obtain ⟨nd, rfl⟩ := hD.out
    have h1 := hbd'.out k hk
    have h2 := hbd2'.out k hk
    rw [← hys.out] at h1 h2
    rw [← hxs.out] at h2
    have h3 : ys ≤ 1125899906842624 := by omega
    clear h1
    by_cases hlt : k < n
    · have d1 := cu'.out k hlt
      have d2 := cp'.out k hlt
      rw [ofN_getD] at d1 d2
      have hlt1 : (k : Int) < (n : Int) := by omega
      have hc := hcap'.out k hlt
      have h4 := hbd3'.out k hlt
      have s1 : xs + wt (redL L m) k = S (wt (redL L m)) (k + 1) := by rw [hxs.out]; rfl
      have s2 : ys + wt L k = S (wt L) (k + 1) := by rw [hys.out]; rfl
      have s1' := Lib.hid s1
      have s2' := Lib.hid s2
      clear s1 s2
      generalize wt (redL L m) k = x at *
      generalize wt L k = y at *
      have t1 : decide ((x : Int) < 0) = false := by simp
      have t2 : decide (y < x) = false := by simp; omega
      have t3 : decide ((y : Int) < (x : Int)) = false := by simp; omega
      go_wp2_with fail
      go_quiet (fail)
      go_wp2_with fail
      go_quiet (fail)
      go_wp2_with fail
      go_roundw
      case rel => exact ⟨k + 1, by omega, by go_num, ⟨xs + x, by go_num, s1'⟩, ⟨ys + y, by go_num, s2'⟩, Lib.hid ⟨_, rfl⟩⟩
      case measure => simp [RowKit.intOf]; omega
    · obtain rfl : k = n := by omega
      have haw2 := Lib.hid (awake_any (w3.drewN nd))
      have hmn : xs = min ys m := by rw [hxs.out, hys.out]; exact hsum'.out
      have e : min (ys : Int) (m : Int) = (xs : Int) := by omega
      clear hmn h2 h3
      go_wp2_with fail
      refine haw2.out.mono ?_; rintro e w5 ⟨rfl, h5⟩
      have hfin := Lib.hid (hB7'.out w5 ((below_drewN (Below.refl _ _) nd).trans h5))
      clear h5
      go_wp2_with fail
      go_ret
      exact hfin.out
end Go.Proofs.Ytnjghcncibogeaa.Spl
