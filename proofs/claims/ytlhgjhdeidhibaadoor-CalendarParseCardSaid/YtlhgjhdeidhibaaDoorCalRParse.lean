/- ParseHour of the reference. (Written by gen_rparse.py.) -/
import Derived.Test.YtlhgjhdeidhibaaDoorCalParse
namespace Go.Proofs.YtlhgjhdeidhibaaDoor.Cal
open Go.RowKit Go.Lib Go.Proofs.YtlhgjhdeidhibaaDoor.Bas
set_option linter.unusedVariables false

def valR (s : ByteArray) (i n : Nat) : Int := if digs s i n then val s i n else 0
def digB (s : ByteArray) (i n : Nat) : Bool := decide (digs s i n)
set_option maxHeartbeats 4000000 in
theorem rnumber_any (s : ByteArray) (i n : Nat) (a b : Int) (w : World) (ha : a = i) (hb : b = i + n) (hs : i + n ≤ s.size) (h100 : s.size ≤ 100) (hn : n ≤ 4) :
    Calls Tryd.prog 53 #[.string s, .int .i64 a, .int .i64 b] w fun e w' => e = .returned (.tuple #[.int .i64 (valR s i n), .bool (digB s i n)]) ∧ w = w' := by
  subst ha; subst hb
  have hv : digs s i n → valR s i n = val s i n ∧ digB s i n = true := fun h => ⟨by unfold valR; rw [if_pos h], decide_eq_true h⟩
  have hx : ¬ digs s i n → valR s i n = 0 ∧ digB s i n = false := fun h => ⟨by unfold valR; rw [if_neg h], decide_eq_false h⟩
  have hv' := Lib.hid hv
  have hx' := Lib.hid hx
  clear hv hx
  generalize valR s i n = V at *
  generalize digB s i n = D at *
  go_enter Tryd.func53, Tryd.ntmps53
  go_wp2_with fail
  go_loop [1, 8] (fun p t => ∃ k : Nat, k ≤ n ∧ p = .int .i64 ((i : Int) + k) ∧ t = .int .i64 (val s i k) ∧ Hid (digs s i k)) (fun p _ => (i + n) - (intOf p).toNat)
  case atStart => exact ⟨0, Nat.zero_le _, by simp, rfl, Lib.hid (fun j hj => by omega)⟩
  case round =>
    obtain ⟨k, hk, rfl, rfl, hD⟩ := hrel
    have vb := val_bd4 s i k (by omega) hD.out
    have vb1 := vb.1
    have vb2 := vb.2
    clear vb
    by_cases hlt : k < n
    · have hik : i + k < s.size := by omega
      have hbz := bz_at s (i + k) hik
      have hbl := bz_lt s (i + k)
      rw [hbz] at hbl
      have hnx : ((i : Int) + k) = ((i + k : Nat) : Int) := by omega
      have hval : Hid (val s i (k + 1) = val s i k * 10 + ((s[i + k].toNat : Int) - 48)) := Lib.hid (by show val s i k * 10 + ((bz s (i + k) : Int) - 48) = _; rw [hbz])
      have hdg : Hid (dgB (bz s (i + k)) = decide (48 ≤ s[i + k].toNat ∧ s[i + k].toNat ≤ 57)) := Lib.hid (by rw [hbz]; rfl)
      have hni : (((i : Int) + k)).toNat = i + k := by omega
      have g1 : (0 : Int) ≤ (i : Int) + k := by omega
      have g2 : (i : Int) + k < (s.size : Int) := by omega
      by_cases t1 : s[i + k].toNat < 48
      · have no : Hid (V = 0 ∧ D = false) := Lib.hid (hx'.out (fun h => by have := h k hlt; rw [hdg.out, decide_eq_true_eq] at this; omega))
        have u1 : decide ((s[i + k].toNat : Int) < 48) = true := by simp; omega
        clear hbz hnx t1
        go_wp2
        go_ret2
        exact ⟨by rw [no.out.1, no.out.2]; rfl, rfl⟩
      · have u1 : decide ((s[i + k].toNat : Int) < 48) = false := by simp; omega
        by_cases t2 : 57 < s[i + k].toNat
        · have no : Hid (V = 0 ∧ D = false) := Lib.hid (hx'.out (fun h => by have := h k hlt; rw [hdg.out, decide_eq_true_eq] at this; omega))
          have u2 : decide (57 < (s[i + k].toNat : Int)) = true := by simp; omega
          clear hbz hnx t1 t2
          go_wp2
          go_ret2
          exact ⟨by rw [no.out.1, no.out.2]; rfl, rfl⟩
        · have u2 : decide (57 < (s[i + k].toNat : Int)) = false := by simp; omega
          have hn1 : Hid (digs s i (k + 1)) := Lib.hid (fun j hj => by
            by_cases e : j < k
            · exact hD.out j e
            · obtain rfl : j = k := by omega
              rw [hdg.out, decide_eq_true_eq]; omega)
          have w1 : 48 ≤ s[i + k].toNat := by omega
          have w2 : s[i + k].toNat ≤ 57 := by omega
          clear hbz hnx t1 t2
          go_wp2
          go_round
          case rel => exact ⟨k + 1, by omega, by go_num, by rw [hval.out]; go_num, hn1⟩
          case measure => simp [intOf]; omega
    · obtain rfl : k = n := by omega
      have yes := Lib.hid (hv'.out hD.out)
      go_wp2
      go_ret2
      exact ⟨by rw [yes.out.1, yes.out.2]; rfl, rfl⟩
end Go.Proofs.YtlhgjhdeidhibaaDoor.Cal
