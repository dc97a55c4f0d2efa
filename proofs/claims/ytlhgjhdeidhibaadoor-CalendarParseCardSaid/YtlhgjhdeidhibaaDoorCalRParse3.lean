/- ParseHour of the reference returns what Parse does. -/
import Derived.Test.YtlhgjhdeidhibaaDoorCalRParse2
namespace Go.Proofs.YtlhgjhdeidhibaaDoor.Cal
open Go.RowKit Go.Lib Go.Proofs.YtlhgjhdeidhibaaDoor.Bas
set_option linter.unusedVariables false

theorem valR_yes (s : ByteArray) (i n : Nat) (h : digB s i n = true) : valR s i n = val s i n := by unfold valR; rw [if_pos (of_decide_eq_true h)]
theorem eq45 (s : ByteArray) (i : Nat) (h : i < s.size) (c : Nat) : ((s[i].toNat : Int) == (c : Int)) = decide (bz s i = c) := by
  rw [bz_at s i h]
  rw [Bool.eq_iff_iff]; simp; omega
theorem ne45 (s : ByteArray) (i : Nat) (h : i < s.size) (c : Nat) : ((s[i].toNat : Int) != (c : Int)) = !decide (bz s i = c) := by
  rw [bz_at s i h]
  rw [Bool.eq_iff_iff]; simp; omega
theorem rparse_any (s : ByteArray) (w : World) (h100 : s.size ≤ 100) : Calls Tryd.prog 23 #[.string s] w (NumOut (parseV s).1 (parseV s).2 w) := by
  by_cases h10 : s.size = 10
  · have hn : ¬ hasF s hourF := fun e => by have := ((hour_iff s).1 e).1; omega
    refine rparse_10 s (valR s 0 4) (valR s 5 2) (valR s 8 2) (hourV (valR s 0 4) (valR s 5 2) (valR s 8 2) 0).1 (hourV (valR s 0 4) (valR s 5 2) (valR s 8 2) 0).2 (digB s 0 4) (digB s 5 2) (digB s 8 2) (decide (bz s 4 = 45)) (decide (bz s 7 = 45)) w (by omega) (by omega) (by omega) (by omega)
      (eq45 s 4 (by omega) 45) (ne45 s 4 (by omega) 45) (eq45 s 7 (by omega) 45) (ne45 s 7 (by omega) 45)
      (Lib.hid fun w => rnumber_any s 0 4 0 4 w rfl rfl (by omega) h100 (by omega)) (Lib.hid fun w => rnumber_any s 5 2 5 7 w rfl rfl (by omega) h100 (by omega)) (Lib.hid fun w => rnumber_any s 8 2 8 10 w rfl rfl (by omega) h100 (by omega))
      (Lib.hid fun w => rhour_any _ _ _ _ w) _ _ (Lib.hid ⟨fun hc => ?_, fun hc => ?_⟩)
    · simp only [Bool.and_eq_true, decide_eq_true_eq] at hc
      obtain ⟨⟨⟨⟨a, b⟩, c⟩, d4⟩, d7⟩ := hc
      have hd : hasF s dayF := (day_iff s).2 ⟨h10, of_decide_eq_true a, d4, of_decide_eq_true b, d7, of_decide_eq_true c⟩
      rw [valR_yes s 0 4 a, valR_yes s 5 2 b, valR_yes s 8 2 c]
      unfold parseV
      rw [if_pos hd]
      exact ⟨rfl, rfl⟩
    · have hd : ¬ hasF s dayF := fun e => by
        obtain ⟨_, p1, p2, p3, p4, p5⟩ := (day_iff s).1 e
        rw [show digB s 0 4 = true from decide_eq_true p1, show digB s 5 2 = true from decide_eq_true p3, show digB s 8 2 = true from decide_eq_true p5, decide_eq_true p2, decide_eq_true p4] at hc
        cases hc
      unfold parseV
      rw [if_neg hd, if_neg hn]
      exact ⟨rfl, rfl⟩
  by_cases h13 : s.size = 13
  · have hn : ¬ hasF s dayF := fun e => by have := ((day_iff s).1 e).1; omega
    refine rparse_13 s (valR s 0 4) (valR s 5 2) (valR s 8 2) (valR s 11 2) (hourV (valR s 0 4) (valR s 5 2) (valR s 8 2) (valR s 11 2)).1 (hourV (valR s 0 4) (valR s 5 2) (valR s 8 2) (valR s 11 2)).2 (digB s 0 4) (digB s 5 2) (digB s 8 2) (digB s 11 2) (decide (bz s 10 = 84)) (decide (bz s 4 = 45)) (decide (bz s 7 = 45)) w (by omega) (by omega) (by omega) (by omega) (by omega)
      (eq45 s 4 (by omega) 45) (ne45 s 4 (by omega) 45) (eq45 s 7 (by omega) 45) (ne45 s 7 (by omega) 45) (eq45 s 10 (by omega) 84)
      (Lib.hid fun w => rnumber_any s 0 4 0 4 w rfl rfl (by omega) h100 (by omega)) (Lib.hid fun w => rnumber_any s 5 2 5 7 w rfl rfl (by omega) h100 (by omega)) (Lib.hid fun w => rnumber_any s 8 2 8 10 w rfl rfl (by omega) h100 (by omega)) (Lib.hid fun w => rnumber_any s 11 2 11 13 w rfl rfl (by omega) h100 (by omega))
      (Lib.hid fun w => rhour_any _ _ _ _ w) _ _ (Lib.hid ⟨fun hc => ?_, fun hc => ?_⟩)
    · simp only [Bool.and_eq_true, decide_eq_true_eq] at hc
      obtain ⟨⟨⟨⟨⟨⟨a, b⟩, c⟩, k⟩, dT⟩, d4⟩, d7⟩ := hc
      have hd : hasF s hourF := (hour_iff s).2 ⟨h13, ⟨of_decide_eq_true a, d4, of_decide_eq_true b, d7, of_decide_eq_true c⟩, dT, of_decide_eq_true k⟩
      rw [valR_yes s 0 4 a, valR_yes s 5 2 b, valR_yes s 8 2 c, valR_yes s 11 2 k]
      unfold parseV
      rw [if_neg hn, if_pos hd]
      exact ⟨rfl, rfl⟩
    · have hd : ¬ hasF s hourF := fun e => by
        obtain ⟨_, ⟨p1, p2, p3, p4, p5⟩, p6, p7⟩ := (hour_iff s).1 e
        rw [show digB s 0 4 = true from decide_eq_true p1, show digB s 5 2 = true from decide_eq_true p3, show digB s 8 2 = true from decide_eq_true p5, show digB s 11 2 = true from decide_eq_true p7, decide_eq_true p2, decide_eq_true p4, decide_eq_true p6] at hc
        cases hc
      unfold parseV
      rw [if_neg hn, if_neg hd]
      exact ⟨rfl, rfl⟩
  · have hn : ¬ hasF s dayF := fun e => h10 ((day_iff s).1 e).1
    have hn2 : ¬ hasF s hourF := fun e => h13 ((hour_iff s).1 e).1
    unfold parseV
    rw [if_neg hn, if_neg hn2]
    exact rparse_len s w h100 h10 h13
end Go.Proofs.YtlhgjhdeidhibaaDoor.Cal
