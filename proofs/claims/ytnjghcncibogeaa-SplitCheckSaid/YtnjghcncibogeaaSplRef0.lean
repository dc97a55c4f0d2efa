/- The reference of package split: division digit by binary digit; the sum of the weights. -/
import Derived.Test.YtnjghcncibogeaaSplQuota
namespace Go.Proofs.Ytnjghcncibogeaa.Spl
open Go.RowKit Go.Lib Go.Proofs.Ytnjghcncibogeaa.Bas Go.Proofs.Ytnjghcncibogeaa.Dk
set_option linter.unusedVariables false

/-- One binary digit more. -/
theorem digit_step (p c num den : Nat) (hd : 0 < den) : (2 * p + c) * num / den = 2 * (p * num / den) + (2 * (p * num % den) + c * num) / den ∧ (2 * p + c) * num % den = (2 * (p * num % den) + c * num) % den := by
  have e : p * num / den * den + p * num % den = p * num := Nat.div_add_mod' _ _
  have : (2 * p + c) * num = (2 * (p * num % den) + c * num) + 2 * (p * num / den) * den := by
    rw [Nat.add_mul, Nat.mul_assoc, Nat.mul_assoc]; omega
  rw [this, Nat.add_mul_div_right _ _ hd, Nat.add_mul_mod_self_right]
  omega

theorem half_step (a i : Nat) : a / 2 ^ i = 2 * (a / 2 ^ (i + 1)) + a / 2 ^ i % 2 := by
  rw [Nat.pow_succ, ← Nat.div_div_eq_div_mul]; omega

theorem prefix_le (a i num den : Nat) : a / 2 ^ i * num / den ≤ a * num / den :=
  Nat.div_le_div_right (Nat.mul_le_mul_right _ (Nat.div_le_self _ _))

theorem bit_and (x : Nat) : bits .and .i64 (x : Int) 1 = ((x % 2 : Nat) : Int) := by
  have h1 : (BitVec.ofInt 64 1).toNat = 2 ^ 1 - 1 := by decide
  have key : (BitVec.ofInt 64 (x : Int) &&& BitVec.ofInt 64 1).toNat = ((x : Int) % ((2 ^ 64 : Nat) : Int)).toNat % 2 ^ 1 := by
    rw [BitVec.toNat_and, BitVec.toNat_ofInt, h1, Nat.and_two_pow_sub_one_eq_mod]
  show IntKind.i64.wrap ((BitVec.ofInt 64 (x : Int) &&& BitVec.ofInt 64 1).toNat : Nat) = _
  rw [key, IntKind.wrap_i64]
  omega

set_option maxRecDepth 100000 in
set_option maxHeartbeats 400000 in
theorem divide_yes (a num den Q R : Nat) (hQQ : Hid (a * num / den = Q)) (hRR : Hid (a * num % den = R)) (ha : a ≤ 17592186044416) (hn : num ≤ 17592186044416) (hd : 0 < den) (hd' : den ≤ 4503599627370496) (w : World) (hq : a * num / den ≤ 35184372088832) :
    Calls Try.prog 28 #[.int .i64 a, .int .i64 num, .int .i64 den] w fun e w' => e = .returned (.tuple #[.int .i64 (Q : Int), .int .i64 (R : Int), .bool true]) ∧ Dr w w' := by
  have hq' := Lib.hid hq
  have z46 : a / 2 ^ ((45 : Int) + 1).toNat = 0 := by
    show a / 2 ^ 46 = 0
    exact Nat.div_eq_of_lt (Nat.lt_of_le_of_lt ha (by decide))
  clear hq
  have e0 : ((den : Int) == 0) = false := by simp; omega
  go_enter Try.func28, Try.ntmps28
  go_wp2_with fail
  go_loopw [9, 10, 11] (fun x y z wx => ∃ i : Int, -1 ≤ i ∧ i ≤ 45 ∧ z = .int .i64 i ∧ ∃ q r : Nat, Hid (a / 2 ^ (i + 1).toNat * num / den = q) ∧ Hid (a / 2 ^ (i + 1).toNat * num % den = r) ∧ x = .int .i64 q ∧ y = .int .i64 r ∧ Dr w wx) (fun _ _ z _ => (RowKit.intOf z + 1).toNat)
  case atStart => exact ⟨45, by omega, by omega, rfl, 0, 0, Lib.hid (by rw [z46]; simp), Lib.hid (by rw [z46]; simp), rfl, rfl, Dr.refl w⟩
  case round =>
    obtain ⟨i, hi1, hi2, rfl, q, r, hQ, hR, rfl, rfl, hdr⟩ := hrel
    have q1 : (q : Int) ≤ 35184372088832 := by
      have := prefix_le a (i + 1).toNat num den
      rw [hQ.out] at this; have := hq'.out; omega
    have r1 : (r : Int) < den := by have := Nat.mod_lt (a / 2 ^ (i + 1).toNat * num) hd; rw [hR.out] at this; omega
    have hdr' := Lib.hid hdr
    clear hdr
    by_cases hi : 0 ≤ i
    · obtain ⟨k, rfl⟩ := Int.eq_ofNat_of_zero_le hi
      have hb := bit_and (a / 2 ^ k)
      rw [show (((a / 2 ^ k : Nat)) : Int) = (a : Int) / 2 ^ k by simp] at hb
      obtain ⟨c, hc⟩ : ∃ c, a / 2 ^ k % 2 = c := ⟨_, rfl⟩
      rw [hc] at hb
      have hc2 : c < 2 := by omega
      have st := digit_step (a / 2 ^ (k + 1)) c num den hd
      rw [← hc, ← half_step, hc] at st
      have ek : ((k : Int) + 1).toNat = k + 1 := by omega
      rw [ek] at hQ hR
      rw [hQ.out, hR.out] at st
      have lq := prefix_le a k num den
      have lq' := hq'.out
      have st1 := Lib.hid st.1
      have st2 := Lib.hid st.2
      have hQ' : (2 * q + (2 * r + c * num) / den : Nat) ≤ 35184372088832 := by rw [← st.1]; omega
      clear st lq lq' hc
      have hc3 : c = 0 ∨ c = 1 := by omega
      rcases hc3 with rfl | rfl
      all_goals simp only [Nat.zero_mul, Nat.one_mul, Nat.add_zero] at st1 st2 hQ'
      · have c1 : ((2 * r / den : Nat) : Int) = 2 * (r : Int) / (den : Int) := by simp
        have c2 : ((2 * r % den : Nat) : Int) = 2 * (r : Int) % (den : Int) := by simp
        have d1 : (0 : Int) ≤ 2 * (r : Int) / (den : Int) := Int.ediv_nonneg (by omega) (by omega)
        have d2 : 2 * (q : Int) + 2 * (r : Int) / (den : Int) ≤ 35184372088832 := by rw [← c1]; omega
        have c1' := Lib.hid c1
        have c2' := Lib.hid c2
        clear c1 c2 hQ'
        go_wp2_with fail
        go_region
        all_goals go_wp2_with fail
        all_goals go_roundw
        case rel => exact ⟨(k : Int) - 1, by omega, by omega, rfl, 2 * q + 2 * r / den, 2 * r % den, Lib.hid (by rw [show ((k : Int) - 1 + 1).toNat = k by omega]; exact st1.out), Lib.hid (by rw [show ((k : Int) - 1 + 1).toNat = k by omega]; exact st2.out), by rw [Int.natCast_add, c1'.out]; rfl, by rw [c2'.out], hdr'.out.trans ⟨1, rfl⟩⟩
        case measure => simp [RowKit.intOf]
      · have c1 : (((2 * r + num) / den : Nat) : Int) = (2 * (r : Int) + (num : Int)) / (den : Int) := by simp
        have c2 : (((2 * r + num) % den : Nat) : Int) = (2 * (r : Int) + (num : Int)) % (den : Int) := by simp
        have d1 : (0 : Int) ≤ (2 * (r : Int) + (num : Int)) / (den : Int) := Int.ediv_nonneg (by omega) (by omega)
        have d2 : 2 * (q : Int) + (2 * (r : Int) + (num : Int)) / (den : Int) ≤ 35184372088832 := by rw [← c1]; omega
        have c1' := Lib.hid c1
        have c2' := Lib.hid c2
        clear c1 c2 hQ'
        go_wp2_with fail
        go_region
        all_goals go_wp2_with fail
        all_goals go_roundw
        case rel => exact ⟨(k : Int) - 1, by omega, by omega, rfl, 2 * q + (2 * r + num) / den, (2 * r + num) % den, Lib.hid (by rw [show ((k : Int) - 1 + 1).toNat = k by omega]; exact st1.out), Lib.hid (by rw [show ((k : Int) - 1 + 1).toNat = k by omega]; exact st2.out), by rw [Int.natCast_add, c1'.out]; rfl, by rw [c2'.out], hdr'.out.trans ⟨1, rfl⟩⟩
        case measure => simp [RowKit.intOf]
    · obtain rfl : i = -1 := by omega
      have e1 : a / 2 ^ ((-1 : Int) + 1).toNat = a := by show a / 2 ^ 0 = a; simp
      rw [e1] at hQ hR
      clear e1
      go_wp2_with fail
      go_ret3
      exact ⟨by rw [← hQQ.out, ← hRR.out, hQ.out, hR.out]; rfl, hdr'.out⟩


/-- What the check of the weights answers. -/
def wtsV (l : List Int) : Int × Int := if ∀ x ∈ l, okW x then ((W (l.map Int.toNat) : Nat), 0) else (0, 1)
def Pair (a b : Int) (w : World) (e : Ending) (w' : World) : Prop := e = .returned (.tuple #[.int .i64 a, .int .i64 b]) ∧ Dr w w'
theorem wt_toNat (l : List Int) (k : Nat) (h : 0 ≤ l.getD k 0) : ((wt (l.map Int.toNat) k : Nat) : Int) = l.getD k 0 := by
  unfold wt
  revert h
  rw [List.getD_eq_getElem?_getD, List.getD_eq_getElem?_getD, List.getElem?_map]
  cases l[k]? with
  | none => simp
  | some z => intro h; simp at h ⊢; omega
set_option maxHeartbeats 1000000 in
theorem weights_ref (v : Value) (l : List Int) (w : World) (h : IntsAt w v l) (hl : l.length ≤ 64) (A E : Int) (hV : wtsV l = (A, E)) :
    Calls Try.prog 26 #[v] w (Pair A E w) := by
  obtain ⟨p, c, rfl, hp⟩ := h
  obtain ⟨n, hn⟩ : ∃ n, l.length = n := ⟨_, rfl⟩
  rw [hn] at hp hl ⊢
  have hn' := Lib.hid hn
  have hV' := Lib.hid hV
  have hp' := Lib.hid hp
  clear hn hV hp
  go_enter Try.func26, Try.ntmps26
  go_wp2_with fail
  go_loopw [4, 5] (fun x i wr => ∃ k : Nat, k ≤ n ∧ i = .int .i64 k ∧ Hid (∀ y ∈ l.take k, okW y) ∧ (∃ s : Nat, x = .int .i64 s ∧ s ≤ k * 17592186044416 ∧ Hid (s = S (wt (l.map Int.toNat)) k)) ∧ Hid (Dr w wr)) (fun _ i _ => n - (RowKit.intOf i).toNat)
  case atStart => exact ⟨0, Nat.zero_le _, rfl, Lib.hid (by simp), ⟨0, rfl, by omega, Lib.hid rfl⟩, Lib.hid (Dr.refl _)⟩
  case round =>
    obtain ⟨k, hk, rfl, hall, ⟨s, rfl, hsb, hs⟩, hD⟩ := hrel
    obtain ⟨nd, rfl⟩ := hD.out
    by_cases hlt : k < n
    · obtain ⟨b, off, rfl, hc⟩ := hp'.out (by omega)
      have hck := hc k hlt
      have hst := Lib.hid (fun h2 => all_drop_step (p := okW) (l := l) (k := k) (by rw [hn'.out]; exact hlt) hall.out h2)
      have hm := Lib.hid (getD_mem (l := l) (k := k) (by rw [hn'.out]; exact hlt))
      have hwt := Lib.hid (wt_toNat l k)
      have hlt1 : (k : Int) < (n : Int) := by omega
      have hsb2 : (s : Int) ≤ 1125899906842624 := by omega
      clear hc
      generalize l.getD k 0 = y at *
      by_cases hy : okW y
      · obtain ⟨z, rfl⟩ := Int.eq_ofNat_of_zero_le hy.1
        have hz2 : (z : Int) ≤ 17592186044416 := hy.2
        have hy' := Lib.hid hy
        have e1 := Lib.hid (hwt.out (by omega))
        have t1 : decide ((z : Int) < 0) = false := by simp
        have t2 : decide (17592186044416 < (z : Int)) = false := by simp; omega
        clear hy
        go_wp2_with fail
        go_roundw
        case rel => exact ⟨k + 1, by omega, by go_num, Lib.hid (hst.out hy'.out), ⟨s + z, by go_num, by omega, Lib.hid (by have := e1.out; rw [hs.out]; simp only [S]; omega)⟩, Lib.hid ⟨_, rfl⟩⟩
        case measure => simp [RowKit.intOf]; omega
      · have e : A = 0 ∧ E = 1 := by
          have := hV'.out; unfold wtsV at this
          rw [if_neg (fun h => hy (h y hm.out))] at this; cases this; exact ⟨rfl, rfl⟩
        obtain ⟨rfl, rfl⟩ := e
        have hfin : Pair 0 1 w (.returned (.tuple #[.int .i64 0, .int .i64 1])) (w.drewN nd) := ⟨rfl, ⟨_, rfl⟩⟩
        have hfin' := Lib.hid hfin
        have hcase : y < 0 ∨ (0 ≤ y ∧ 17592186044416 < y) := by unfold okW at hy; omega
        clear hfin hy
        rcases hcase with h1 | ⟨h1, h2⟩
        · have t1 : decide (y < 0) = true := by simp; omega
          go_wp2_with fail
          go_ret2
          exact hfin'.out
        · have t1 : decide (y < 0) = false := by simp; omega
          have t2 : decide (17592186044416 < y) = true := by simp; omega
          go_wp2_with fail
          go_ret2
          exact hfin'.out
    · obtain rfl : k = n := by omega
      have e : A = s ∧ E = 0 := by
        have := hV'.out; unfold wtsV at this
        have h := hall.out
        rw [← hn'.out, List.take_length] at h
        rw [if_pos h] at this; cases this
        refine ⟨?_, rfl⟩
        rw [hs.out]; unfold W; rw [List.length_map, hn'.out]
      obtain ⟨rfl, rfl⟩ := e
      have hfin : Pair (s : Int) 0 w (.returned (.tuple #[.int .i64 s, .int .i64 0])) (w.drewN nd) := ⟨rfl, ⟨_, rfl⟩⟩
      have hfin' := Lib.hid hfin
      clear hfin
      go_wp2_with fail
      go_ret2
      exact hfin'.out
end Go.Proofs.Ytnjghcncibogeaa.Spl
