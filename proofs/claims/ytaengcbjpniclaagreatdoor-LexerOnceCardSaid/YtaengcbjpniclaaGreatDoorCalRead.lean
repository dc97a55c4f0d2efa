/- What Parse reads of a text that Format has written. -/
import Derived.Test.YtaengcbjpniclaaGreatDoorCalFmt3
namespace Go.Proofs.YtaengcbjpniclaaGreatDoor.Cal
open Go.RowKit Go.Lib Go.Proofs.YtaengcbjpniclaaGreatDoor.Bas
set_option linter.unusedVariables false

theorem bz_tx (l : List UInt8) (i : Nat) (h : i < l.length) : bz (tx l) i = l[i].toNat := by
  rw [bz_at _ _ (by rw [tx_size]; exact h)]
  congr 1
theorem dgB_dgc (k : Int) (h0 : 0 ≤ k) (h1 : k ≤ 9) : dgB (dgc k).toNat = true := by
  rw [dgB_iff]; have := dgc_nat k h0 h1; omega
/-- The places of a text that begins as a day's. -/
theorem places (y m d : Int) (r : List UInt8) : bz (tx (dayL y m d ++ r)) 0 = (dgc (y / 100 / 10)).toNat ∧ bz (tx (dayL y m d ++ r)) 1 = (dgc (y / 100 % 10)).toNat ∧ bz (tx (dayL y m d ++ r)) 2 = (dgc (y % 100 / 10)).toNat ∧ bz (tx (dayL y m d ++ r)) 3 = (dgc (y % 100 % 10)).toNat ∧
    bz (tx (dayL y m d ++ r)) 4 = 45 ∧ bz (tx (dayL y m d ++ r)) 5 = (dgc (m / 10)).toNat ∧ bz (tx (dayL y m d ++ r)) 6 = (dgc (m % 10)).toNat ∧ bz (tx (dayL y m d ++ r)) 7 = 45 ∧ bz (tx (dayL y m d ++ r)) 8 = (dgc (d / 10)).toNat ∧ bz (tx (dayL y m d ++ r)) 9 = (dgc (d % 10)).toNat := by
  have hl : (dayL y m d ++ r).length = 10 + r.length := by simp [dayL, two]; omega
  refine ⟨?_, ?_, ?_, ?_, ?_, ?_, ?_, ?_, ?_, ?_⟩ <;> rw [bz_tx _ _ (by omega)] <;> simp [dayL, two]
theorem part_txt (y m d : Int) (r : List UInt8) (y1 : 2000 ≤ y) (y2 : y ≤ 2099) (m1 : 1 ≤ m) (m2 : m ≤ 12) (d1 : 1 ≤ d) (d2 : d ≤ 31) : part (tx (dayL y m d ++ r)) ∧ val (tx (dayL y m d ++ r)) 0 4 = y ∧ val (tx (dayL y m d ++ r)) 5 2 = m ∧ val (tx (dayL y m d ++ r)) 8 2 = d := by
  obtain ⟨p0, p1, p2, p3, p4, p5, p6, p7, p8, p9⟩ := places y m d r
  refine ⟨⟨(digs_four _ _).2 ⟨?_, ?_, ?_, ?_⟩, p4, (digs_two _ _).2 ⟨?_, ?_⟩, p7, (digs_two _ _).2 ⟨?_, ?_⟩⟩, ?_, ?_, ?_⟩
  · rw [p0]; exact dgB_dgc _ (by omega) (by omega)
  · rw [p1]; exact dgB_dgc _ (by omega) (by omega)
  · rw [p2]; exact dgB_dgc _ (by omega) (by omega)
  · rw [p3]; exact dgB_dgc _ (by omega) (by omega)
  · rw [p5]; exact dgB_dgc _ (by omega) (by omega)
  · rw [p6]; exact dgB_dgc _ (by omega) (by omega)
  · rw [p8]; exact dgB_dgc _ (by omega) (by omega)
  · rw [p9]; exact dgB_dgc _ (by omega) (by omega)
  · show (((0 * 10 + ((bz _ (0 + 0) : Int) - 48)) * 10 + ((bz _ (0 + 1) : Int) - 48)) * 10 + ((bz _ (0 + 2) : Int) - 48)) * 10 + ((bz _ (0 + 3) : Int) - 48) = y
    rw [p0, p1, p2, p3]
    have a0 := dgc_nat (y / 100 / 10) (by omega) (by omega)
    have a1 := dgc_nat (y / 100 % 10) (by omega) (by omega)
    have a2 := dgc_nat (y % 100 / 10) (by omega) (by omega)
    have a3 := dgc_nat (y % 100 % 10) (by omega) (by omega)
    omega
  · show (0 * 10 + ((bz _ (5 + 0) : Int) - 48)) * 10 + ((bz _ (5 + 1) : Int) - 48) = m
    rw [p5, p6]
    have a0 := dgc_nat (m / 10) (by omega) (by omega)
    have a1 := dgc_nat (m % 10) (by omega) (by omega)
    omega
  · show (0 * 10 + ((bz _ (8 + 0) : Int) - 48)) * 10 + ((bz _ (8 + 1) : Int) - 48) = d
    rw [p8, p9]
    have a0 := dgc_nat (d / 10) (by omega) (by omega)
    have a1 := dgc_nat (d % 10) (by omega) (by omega)
    omega
theorem parse_txt (y m d h : Int) (ok : okD y m d) (h0 : 0 ≤ h) (h1 : h < 24) : parseV (tx (fmtL y m d h)) = (24 * num y m d + h, 0) := by
  obtain ⟨y1, y2, m1, m2, d1, d2⟩ := ok
  have mb := md_bd y m
  have hv : hourV y m d h = (24 * num y m d + h, 0) := by unfold hourV; rw [if_pos ⟨⟨y1, y2, m1, m2, d1, d2⟩, h0, h1⟩]
  unfold fmtL
  by_cases hh : h = 0
  · rw [if_pos hh]
    have p := part_txt y m d [] y1 y2 m1 m2 d1 (by omega)
    rw [List.append_nil] at p
    have hd : hasF (tx (dayL y m d)) dayF := (day_iff _).2 ⟨by rw [tx_size]; rfl, p.1⟩
    unfold parseV
    rw [if_pos hd, p.2.1, p.2.2.1, p.2.2.2]
    subst hh
    exact hv
  · rw [if_neg hh]
    have p := part_txt y m d ([84] ++ two h) y1 y2 m1 m2 d1 (by omega)
    have hl : (dayL y m d ++ ([84] ++ two h)).length = 13 := rfl
    have q0 : bz (tx (dayL y m d ++ ([84] ++ two h))) 10 = 84 := by rw [bz_tx _ _ (by omega)]; simp [dayL, two]
    have q1 : bz (tx (dayL y m d ++ ([84] ++ two h))) 11 = (dgc (h / 10)).toNat := by rw [bz_tx _ _ (by omega)]; simp [dayL, two]
    have q2 : bz (tx (dayL y m d ++ ([84] ++ two h))) 12 = (dgc (h % 10)).toNat := by rw [bz_tx _ _ (by omega)]; simp [dayL, two]
    have hh2 : hasF (tx (dayL y m d ++ ([84] ++ two h))) hourF := (hour_iff _).2 ⟨by rw [tx_size]; rfl, p.1, q0, (digs_two _ _).2 ⟨by rw [q1]; exact dgB_dgc _ (by omega) (by omega), by rw [q2]; exact dgB_dgc _ (by omega) (by omega)⟩⟩
    have hn : ¬ hasF (tx (dayL y m d ++ ([84] ++ two h))) dayF := fun e => by have := ((day_iff _).1 e).1; rw [tx_size, hl] at this; omega
    have hx : val (tx (dayL y m d ++ ([84] ++ two h))) 11 2 = h := by
      show (0 * 10 + ((bz _ (11 + 0) : Int) - 48)) * 10 + ((bz _ (11 + 1) : Int) - 48) = h
      rw [q1, q2]
      have a0 := dgc_nat (h / 10) (by omega) (by omega)
      have a1 := dgc_nat (h % 10) (by omega) (by omega)
      omega
    unfold parseV
    rw [if_neg hn, if_pos hh2, p.2.1, p.2.2.1, p.2.2.2, hx]
    exact hv
theorem parse_fmt (n : Int) (h0 : 0 ≤ n) (h1 : n ≤ 876599) : parseV (fmtT n) = (n, 0) := by
  have o := day_of n h0 h1
  unfold fmtT
  rw [parse_txt _ _ _ _ o.1 (by omega) (by omega)]
  rw [o.2]
  congr 1
  omega
theorem fmtT_size (n : Int) : (fmtT n).size ≤ 13 ∧ 10 ≤ (fmtT n).size := by
  unfold fmtT fmtL
  rw [tx_size]
  split
  · show 10 ≤ 13 ∧ 10 ≤ 10; omega
  · show 13 ≤ 13 ∧ 10 ≤ 13; omega
end Go.Proofs.YtaengcbjpniclaaGreatDoor.Cal
