/- A slice of integers as a list; Sum of package amount and of its reference. -/
import Derived.Test.YtgknkkapenggkaaAmtLaws
namespace Go.Proofs.Ytgknkkapenggkaa.Amt
open Go.RowKit Go.Lib
set_option linter.unusedVariables false

/-- The value reads as the list l of ints, in this world. -/
def IntsAt (w : World) (v : Value) (l : List Int) : Prop :=
  ∃ p c, v = .slice p l.length c ∧ (0 < l.length → ∃ b off, p = some ⟨b, off, none⟩ ∧ ∀ j, j < l.length → w.cell? ⟨b, off + j, none⟩ = some (.int .i64 (l.getD j 0)))
theorem IntsAt.drewN {w : World} {v : Value} {l : List Int} (h : IntsAt w v l) (n : Nat) : IntsAt (w.drewN n) v l := h

def okI (a : Int) : Prop := -17592186044416 ≤ a ∧ a ≤ 17592186044416
instance (a : Int) : Decidable (okI a) := by unfold okI; infer_instance
def sumL : List Int → Int
  | [] => 0
  | x :: r => x + sumL r
theorem sumL_snoc (l : List Int) (x : Int) : sumL (l ++ [x]) = sumL l + x := by
  induction l with
  | nil => simp [sumL]
  | cons y r ih => simp only [List.cons_append, sumL, ih]; omega
theorem sumL_take (l : List Int) (k : Nat) (h : k < l.length) : sumL (l.take (k + 1)) = sumL (l.take k) + l.getD k 0 := by
  rw [List.take_succ_eq_append_getElem h, sumL_snoc, List.getD_eq_getElem?_getD, List.getElem?_eq_getElem h]; rfl
theorem sumL_bd (l : List Int) (h : ∀ x ∈ l, okI x) : -(17592186044416 * l.length) ≤ sumL l ∧ sumL l ≤ 17592186044416 * l.length := by
  induction l with
  | nil => simp [sumL]
  | cons y r ih =>
    have h1 := h y (by simp)
    have h2 := ih fun x hx => h x (by simp [hx])
    unfold okI at h1
    simp only [sumL, List.length_cons]; omega

/-- What Sum returns: the sum and the error. -/
def sumV (l : List Int) : Int × Int :=
  if 65536 < l.length then (0, 4) else if ∀ x ∈ l, okI x then (if okI (sumL l) then (sumL l, 0) else (0, 3)) else (0, 1)

theorem valid_var (a : Int) (b : Bool) (hb : b = decide (okI a)) (w : World) : Calls Try.prog 21 #[.int .i64 a] w fun e w' => e = .returned (.bool b) ∧ w = w' := by
  subst hb
  by_cases h : okI a
  · rw [decide_eq_true h]; exact valid_yes a w h.1 h.2
  · rw [decide_eq_false h]; exact valid_no a w (by unfold okI at h; omega)
theorem rvalid_var (a : Int) (b : Bool) (hb : b = decide (okI a)) (w : World) : Calls Try.prog 22 #[.int .i64 a] w fun e w' => e = .returned (.bool b) ∧ w = w' := by
  subst hb
  by_cases h : okI a
  · rw [decide_eq_true h]; exact rvalid_yes a w h.1 h.2
  · rw [decide_eq_false h]; exact rvalid_no a w (by unfold okI at h; omega)


set_option maxHeartbeats 1000000 in
theorem sum_any (v : Value) (l : List Int) (w : World) (h : IntsAt w v l) (N E : Int) (hN : sumV l = (N, E)) (hl : l.length ≤ 9223372036854775807) :
    Calls Try.prog 18 #[v] w fun e w' => e = .returned (.tuple #[.int .i64 N, .int .i64 E]) ∧ w = w' := by
  obtain ⟨p, c, rfl, hp⟩ := h
  obtain ⟨n, hn⟩ : ∃ n, l.length = n := ⟨_, rfl⟩
  rw [hn] at hp hl ⊢
  have hn' := Lib.hid hn
  have hN' := Lib.hid hN
  have hp' := Lib.hid hp
  clear hn hN hp
  by_cases hbig : 65536 < n
  · have e : N = 0 ∧ E = 4 := by have := hN'.out; unfold sumV at this; rw [hn'.out, if_pos hbig] at this; cases this; exact ⟨rfl, rfl⟩
    obtain ⟨rfl, rfl⟩ := e
    go_enter Try.func18, Try.ntmps18
    go_wp2_with fail
    go_ret2
    exact ⟨rfl, rfl⟩
  · have n1 : n ≤ 65536 := by omega
    clear hbig hl
    go_enter Try.func18, Try.ntmps18
    go_wp2_with fail
    go_loop [4, 12] (fun s i => ∃ k : Nat, k ≤ n ∧ i = .int .i64 k ∧ ∃ x : Int, s = .int .i64 x ∧ Hid (x = sumL (l.take k)) ∧ Hid (∀ y ∈ l.take k, okI y)) (fun _ i => n - (RowKit.intOf i).toNat)
    case atStart => exact ⟨0, Nat.zero_le _, rfl, 0, rfl, Lib.hid rfl, Lib.hid (by simp)⟩
    case round =>
      obtain ⟨k, hk, rfl, x, rfl, hx, hall⟩ := hrel
      have bx := sumL_bd (l.take k) hall.out
      rw [← hx.out] at bx
      have lk : (l.take k).length = k := by rw [List.length_take, hn'.out]; omega
      rw [lk] at bx
      obtain ⟨bx1, bx2⟩ := bx
      have b1 : -1152921504606846976 ≤ x := by omega
      have b2 : x ≤ 1152921504606846976 := by omega
      clear bx1 bx2 lk
      by_cases hlt : k < n
      · obtain ⟨b, off, rfl, hc⟩ := hp'.out (by omega)
        have hck := hc k hlt
        obtain ⟨y, hy⟩ : ∃ y, l.getD k 0 = y := ⟨_, rfl⟩
        rw [hy] at hck
        have hmem : y ∈ l := by rw [← hy, List.getD_eq_getElem?_getD, List.getElem?_eq_getElem (by rw [hn'.out]; exact hlt)]; exact List.getElem_mem _
        have hst := sumL_take l k (by rw [hn'.out]; exact hlt)
        rw [hy, ← hx.out] at hst
        have htk : l.take (k + 1) = l.take k ++ [y] := by
          rw [List.take_succ_eq_append_getElem (by rw [hn'.out]; exact hlt), ← hy, List.getD_eq_getElem?_getD, List.getElem?_eq_getElem (by rw [hn'.out]; exact hlt)]; rfl
        have hst' := Lib.hid hst
        have hmem' := Lib.hid hmem
        have htk' := Lib.hid htk
        clear hc hy hst hmem htk
        by_cases hv : okI y
        · have b3 : -17592186044416 ≤ y := hv.1
          have b4 : y ≤ 17592186044416 := hv.2
          have hv' := Lib.hid hv
          clear hv
          go_wp2_with fail
          refine (valid_var y true (by rw [decide_eq_true hv'.out]) _).mono ?_; rintro e w' ⟨rfl, rfl⟩
          go_wp2_with fail
          go_round
          case rel => exact ⟨k + 1, by omega, by go_num, x + y, rfl, Lib.hid hst'.out.symm, Lib.hid (by rw [htk'.out]; intro z hz; rcases List.mem_append.1 hz with h | h; exact hall.out z h; rw [List.mem_singleton.1 h]; exact hv'.out)⟩
          case measure => simp [RowKit.intOf]; omega
        · have e : N = 0 ∧ E = 1 := by
            have := hN'.out; unfold sumV at this
            rw [hn'.out, if_neg (by omega), if_neg (fun h => hv (h y hmem'.out))] at this; cases this; exact ⟨rfl, rfl⟩
          obtain ⟨rfl, rfl⟩ := e
          have hv' := Lib.hid hv
          clear hv
          go_wp2_with fail
          refine (valid_var y false (by rw [decide_eq_false hv'.out]) _).mono ?_; rintro e w' ⟨rfl, rfl⟩
          go_wp2_with fail
          go_ret2
          exact ⟨rfl, rfl⟩
      · obtain rfl : k = n := by omega
        have htk : l.take k = l := by rw [← hn'.out]; exact List.take_length
        rw [htk] at hx hall
        have e := hN'.out
        unfold sumV at e
        rw [hn'.out, if_neg (by omega), if_pos hall.out, ← hx.out] at e
        have e' := Lib.hid e
        clear e htk
        by_cases hv : okI x
        · have e2 : N = x ∧ E = 0 := by have := e'.out; rw [if_pos hv] at this; cases this; exact ⟨rfl, rfl⟩
          obtain ⟨rfl, rfl⟩ := e2
          have hv' := Lib.hid hv
          clear hv
          go_wp2_with fail
          refine (valid_var N true (by rw [decide_eq_true hv'.out]) _).mono ?_; rintro e w' ⟨rfl, rfl⟩
          go_wp2_with fail
          go_ret2
          exact ⟨rfl, rfl⟩
        · have e2 : N = 0 ∧ E = 3 := by have := e'.out; rw [if_neg hv] at this; cases this; exact ⟨rfl, rfl⟩
          obtain ⟨rfl, rfl⟩ := e2
          have hv' := Lib.hid hv
          clear hv
          go_wp2_with fail
          refine (valid_var x false (by rw [decide_eq_false hv'.out]) _).mono ?_; rintro e w' ⟨rfl, rfl⟩
          go_wp2_with fail
          go_ret2
          exact ⟨rfl, rfl⟩

set_option maxHeartbeats 1000000 in
theorem rsum_any (v : Value) (l : List Int) (w : World) (h : IntsAt w v l) (N E : Int) (hN : sumV l = (N, E)) (hl : l.length ≤ 9223372036854775807) :
    Calls Try.prog 19 #[v] w fun e w' => e = .returned (.tuple #[.int .i64 N, .int .i64 E]) ∧ w = w' := by
  obtain ⟨p, c, rfl, hp⟩ := h
  obtain ⟨n, hn⟩ : ∃ n, l.length = n := ⟨_, rfl⟩
  rw [hn] at hp hl ⊢
  have hn' := Lib.hid hn
  have hN' := Lib.hid hN
  have hp' := Lib.hid hp
  clear hn hN hp
  by_cases hbig : 65536 < n
  · have e : N = 0 ∧ E = 4 := by have := hN'.out; unfold sumV at this; rw [hn'.out, if_pos hbig] at this; cases this; exact ⟨rfl, rfl⟩
    obtain ⟨rfl, rfl⟩ := e
    go_enter Try.func19, Try.ntmps19
    go_wp2_with fail
    go_ret2
    exact ⟨rfl, rfl⟩
  · have n1 : n ≤ 65536 := by omega
    clear hbig hl
    go_enter Try.func19, Try.ntmps19
    go_wp2_with fail
    go_loop [4, 5] (fun s i => ∃ k : Nat, k ≤ n ∧ i = .int .i64 k ∧ ∃ x : Int, s = .int .i64 x ∧ Hid (x = sumL (l.take k)) ∧ Hid (∀ y ∈ l.take k, okI y)) (fun _ i => n - (RowKit.intOf i).toNat)
    case atStart => exact ⟨0, Nat.zero_le _, rfl, 0, rfl, Lib.hid rfl, Lib.hid (by simp)⟩
    case round =>
      obtain ⟨k, hk, rfl, x, rfl, hx, hall⟩ := hrel
      have bx := sumL_bd (l.take k) hall.out
      rw [← hx.out] at bx
      have lk : (l.take k).length = k := by rw [List.length_take, hn'.out]; omega
      rw [lk] at bx
      obtain ⟨bx1, bx2⟩ := bx
      have b1 : -1152921504606846976 ≤ x := by omega
      have b2 : x ≤ 1152921504606846976 := by omega
      clear bx1 bx2 lk
      by_cases hlt : k < n
      · obtain ⟨b, off, rfl, hc⟩ := hp'.out (by omega)
        have hck := hc k hlt
        obtain ⟨y, hy⟩ : ∃ y, l.getD k 0 = y := ⟨_, rfl⟩
        rw [hy] at hck
        have hmem : y ∈ l := by rw [← hy, List.getD_eq_getElem?_getD, List.getElem?_eq_getElem (by rw [hn'.out]; exact hlt)]; exact List.getElem_mem _
        have hst := sumL_take l k (by rw [hn'.out]; exact hlt)
        rw [hy, ← hx.out] at hst
        have htk : l.take (k + 1) = l.take k ++ [y] := by
          rw [List.take_succ_eq_append_getElem (by rw [hn'.out]; exact hlt), ← hy, List.getD_eq_getElem?_getD, List.getElem?_eq_getElem (by rw [hn'.out]; exact hlt)]; rfl
        have hst' := Lib.hid hst
        have hmem' := Lib.hid hmem
        have htk' := Lib.hid htk
        clear hc hy hst hmem htk
        by_cases hv : okI y
        · have b3 : -17592186044416 ≤ y := hv.1
          have b4 : y ≤ 17592186044416 := hv.2
          have hv' := Lib.hid hv
          clear hv
          go_wp2_with fail
          refine (rvalid_var y true (by rw [decide_eq_true hv'.out]) _).mono ?_; rintro e w' ⟨rfl, rfl⟩
          go_wp2_with fail
          go_round
          case rel => exact ⟨k + 1, by omega, by go_num, x + y, rfl, Lib.hid hst'.out.symm, Lib.hid (by rw [htk'.out]; intro z hz; rcases List.mem_append.1 hz with h | h; exact hall.out z h; rw [List.mem_singleton.1 h]; exact hv'.out)⟩
          case measure => simp [RowKit.intOf]; omega
        · have e : N = 0 ∧ E = 1 := by
            have := hN'.out; unfold sumV at this
            rw [hn'.out, if_neg (by omega), if_neg (fun h => hv (h y hmem'.out))] at this; cases this; exact ⟨rfl, rfl⟩
          obtain ⟨rfl, rfl⟩ := e
          have hv' := Lib.hid hv
          clear hv
          go_wp2_with fail
          refine (rvalid_var y false (by rw [decide_eq_false hv'.out]) _).mono ?_; rintro e w' ⟨rfl, rfl⟩
          go_wp2_with fail
          go_ret2
          exact ⟨rfl, rfl⟩
      · obtain rfl : k = n := by omega
        have htk : l.take k = l := by rw [← hn'.out]; exact List.take_length
        rw [htk] at hx hall
        have e := hN'.out
        unfold sumV at e
        rw [hn'.out, if_neg (by omega), if_pos hall.out, ← hx.out] at e
        have e' := Lib.hid e
        clear e htk
        by_cases hv : okI x
        · have e2 : N = x ∧ E = 0 := by have := e'.out; rw [if_pos hv] at this; cases this; exact ⟨rfl, rfl⟩
          obtain ⟨rfl, rfl⟩ := e2
          have hv' := Lib.hid hv
          clear hv
          go_wp2_with fail
          refine (rvalid_var N true (by rw [decide_eq_true hv'.out]) _).mono ?_; rintro e w' ⟨rfl, rfl⟩
          go_wp2_with fail
          go_ret2
          exact ⟨rfl, rfl⟩
        · have e2 : N = 0 ∧ E = 3 := by have := e'.out; rw [if_neg hv] at this; cases this; exact ⟨rfl, rfl⟩
          obtain ⟨rfl, rfl⟩ := e2
          have hv' := Lib.hid hv
          clear hv
          go_wp2_with fail
          refine (rvalid_var x false (by rw [decide_eq_false hv'.out]) _).mono ?_; rintro e w' ⟨rfl, rfl⟩
          go_wp2_with fail
          go_ret2
          exact ⟨rfl, rfl⟩
end Go.Proofs.Ytgknkkapenggkaa.Amt
