/- Package lexer: the text of a number, of an hour, of any token. -/
import Derived.Test.YtaengcbjpniclaaGreatDoorLxWrt
namespace Go.Proofs.YtaengcbjpniclaaGreatDoor.Lx
open Go.RowKit Go.Lib Go.Proofs.YtaengcbjpniclaaGreatDoor.Bas Go.Proofs.YtaengcbjpniclaaGreatDoor.Cal
set_option linter.unusedVariables false

theorem tx_cat (x y : List UInt8) (P : Program) (w : World) (h : x.length + y.length ≤ 1000000) : (Op.stringOp .add (tx x) (tx y)).run P w = .ok (.string (tx (x ++ y))) w := by
  rw [← tx_append]
  exact run_string_add_sum w _ _ (by rw [tx_size, tx_size]; omega)
theorem fmt_cat (n : Int) (P : Program) (w : World) : (Op.stringOp .add { data := #[64] } (fmtT n)).run P w = .ok (.string (tx (64 :: bl (fmtT n)))) w := by
  have h := tx_cat [64] (bl (fmtT n)) P w (by rw [bl_size]; have := (fmtT_size n).1; simp; omega)
  rw [tx_bl] at h
  exact h
theorem itoa_any (n : Int) (w : World) (hE : Env w) (h0 : -9223372036854775808 ≤ n) (h1 : n ≤ 9223372036854775807) : Calls Tryz.prog 47 #[.int .i64 n] w (StrBe (tx (itoa n)) w) := by
  refine (Tryz.strconv_Itoa n h0 h1 w hE.2.1).mono ?_
  rintro e w' ⟨rfl, k, os, rfl⟩
  exact ⟨rfl, Lib.below_grow _ w (Nat.le_refl _) k os⟩
theorem isEmpty_tx (u : List UInt8) (h : u ≠ []) : (tx u).toList.isEmpty = false := by
  rw [toList_bl, bl_tx]
  cases u with
  | nil => exact absurd rfl h
  | cons c r => rfl
set_option maxHeartbeats 4000000 in
theorem num_field2 (u : List UInt8) (n p : Int) (w : World) (hEnv : Env w) (hu : u ≠ []) : Calls Tryz.prog 32 #[tkV ⟨2, u, n, p⟩] w (StrOut (wrS ⟨2, u, n, p⟩) (wrE ⟨2, u, n, p⟩) w) := by
  have hE : wrE ⟨2, u, n, p⟩ = 20 := by simp [wrE, hu]
  rw [wrS_bad _ _ hE (by decide), hE]
  have ie := isEmpty_tx u hu
  have ie2 : ((tx u).toList == []) = false := by rw [toList_bl, bl_tx]; simpa using hu
  clear hE hu
  have K := Lib.hid (hEnv.alloc (.cells #[.int .i64 2, .string (tx u), .int .i64 n, .int .i64 p] 25))
  have B := Lib.hid (below_box w (.cells #[.int .i64 2, .string (tx u), .int .i64 n, .int .i64 p] 25))
  clear hEnv
  unfold tkV
  go_enter Tryz.func32, Tryz.ntmps32
  go_wp2_with fail
  go_ret2
  exact ⟨rfl, B.out⟩
set_option maxHeartbeats 4000000 in
theorem num_field3 (u : List UInt8) (n p : Int) (w : World) (hEnv : Env w) (hu : u ≠ []) : Calls Tryz.prog 32 #[tkV ⟨3, u, n, p⟩] w (StrOut (wrS ⟨3, u, n, p⟩) (wrE ⟨3, u, n, p⟩) w) := by
  have hE : wrE ⟨3, u, n, p⟩ = 20 := by simp [wrE, hu]
  rw [wrS_bad _ _ hE (by decide), hE]
  have ie := isEmpty_tx u hu
  have ie2 : ((tx u).toList == []) = false := by rw [toList_bl, bl_tx]; simpa using hu
  clear hE hu
  have K := Lib.hid (hEnv.alloc (.cells #[.int .i64 3, .string (tx u), .int .i64 n, .int .i64 p] 25))
  have B := Lib.hid (below_box w (.cells #[.int .i64 3, .string (tx u), .int .i64 n, .int .i64 p] 25))
  clear hEnv
  unfold tkV
  go_enter Tryz.func32, Tryz.ntmps32
  go_wp2_with fail
  go_ret2
  exact ⟨rfl, B.out⟩
set_option maxHeartbeats 4000000 in
theorem num_hour (u : List UInt8) (n p : Int) (w : World) (hEnv : Env w) (hu : u = []) (hn : 0 ≤ n ∧ n ≤ 876599) : Calls Tryz.prog 32 #[tkV ⟨3, u, n, p⟩] w (StrOut (wrS ⟨3, u, n, p⟩) (wrE ⟨3, u, n, p⟩) w) := by
  subst hu
  have ie : (tx []).toList.isEmpty = true := by rw [toList_bl]; rfl
  have ie2 : ((tx []).toList == []) = true := by rw [toList_bl]; rfl
  have hE : wrE ⟨3, [], n, p⟩ = 0 := by simp [wrE, hn]
  have hS : wrS ⟨3, [], n, p⟩ = tx (64 :: bl (fmtT n)) := by unfold wrS; rw [if_pos hE]; rfl
  rw [hE, hS]
  have c := Lib.hid (fun w hT => format_any n w hT)
  rw [show fmtV n = (fmtT n, 0) by unfold fmtV; rw [if_pos hn]] at c
  have hcat := fmt_cat n Tryz.prog
  generalize fmtT n = f at *
  generalize tx (64 :: bl f) = f2 at *
  clear hE hS hn
  have K := Lib.hid (hEnv.alloc (.cells #[.int .i64 3, .string (tx []), .int .i64 n, .int .i64 p] 25))
  have B := Lib.hid (below_box w (.cells #[.int .i64 3, .string (tx []), .int .i64 n, .int .i64 p] 25))
  clear hEnv
  unfold tkV
  go_enter Tryz.func32, Tryz.ntmps32
  go_wp2_with fail
  refine (c.out _ K.out.1).mono ?_; rintro e W1 ⟨rfl, hB⟩
  have B2 := Lib.hid (B.out.trans (hB.mono B.out.size))
  clear hB
  go_wp2_with fail
  go_ret2
  exact ⟨rfl, B2.out⟩
set_option maxHeartbeats 4000000 in
theorem num_hour_bad (u : List UInt8) (n p : Int) (w : World) (hEnv : Env w) (hu : u = []) (hn : ¬ (0 ≤ n ∧ n ≤ 876599)) : Calls Tryz.prog 32 #[tkV ⟨3, u, n, p⟩] w (StrOut (wrS ⟨3, u, n, p⟩) (wrE ⟨3, u, n, p⟩) w) := by
  subst hu
  have ie : (tx []).toList.isEmpty = true := by rw [toList_bl]; rfl
  have ie2 : ((tx []).toList == []) = true := by rw [toList_bl]; rfl
  have hE : wrE ⟨3, [], n, p⟩ = 1 := by simp [wrE, hn]
  rw [wrS_bad _ _ hE (by decide), hE]
  have c := Lib.hid (fun w hT => format_any n w hT)
  rw [show fmtV n = ({ data := #[] }, 1) by unfold fmtV; rw [if_neg hn]] at c
  clear hE hn
  have K := Lib.hid (hEnv.alloc (.cells #[.int .i64 3, .string (tx []), .int .i64 n, .int .i64 p] 25))
  have B := Lib.hid (below_box w (.cells #[.int .i64 3, .string (tx []), .int .i64 n, .int .i64 p] 25))
  clear hEnv
  unfold tkV
  go_enter Tryz.func32, Tryz.ntmps32
  go_wp2_with fail
  refine (c.out _ K.out.1).mono ?_; rintro e W1 ⟨rfl, hB⟩
  have B2 := Lib.hid (B.out.trans (hB.mono B.out.size))
  clear hB
  go_wp2_with fail
  go_ret2
  exact ⟨rfl, B2.out⟩
set_option maxHeartbeats 4000000 in
theorem num_num (u : List UInt8) (n p : Int) (w : World) (hEnv : Env w) (hu : u = []) (hn : -17592186044416 ≤ n ∧ n ≤ 17592186044416) : Calls Tryz.prog 32 #[tkV ⟨2, u, n, p⟩] w (StrOut (wrS ⟨2, u, n, p⟩) (wrE ⟨2, u, n, p⟩) w) := by
  subst hu
  have ie : (tx []).toList.isEmpty = true := by rw [toList_bl]; rfl
  have ie2 : ((tx []).toList == []) = true := by rw [toList_bl]; rfl
  have hE : wrE ⟨2, [], n, p⟩ = 0 := by simp [wrE, hn]
  have hS : wrS ⟨2, [], n, p⟩ = tx (itoa n) := by unfold wrS; rw [if_pos hE]; rfl
  rw [hE, hS]
  have c1 := Lib.hid (isAmount_any n)
  rw [decide_eq_true hn] at c1
  have c2 := Lib.hid (fun w hE => itoa_any n w hE (by omega) (by omega))
  generalize tx (itoa n) = f at *
  clear hE hS hn
  have K := Lib.hid (hEnv.alloc (.cells #[.int .i64 2, .string (tx []), .int .i64 n, .int .i64 p] 25))
  have B := Lib.hid (below_box w (.cells #[.int .i64 2, .string (tx []), .int .i64 n, .int .i64 p] 25))
  clear hEnv
  unfold tkV
  go_enter Tryz.func32, Tryz.ntmps32
  go_wp2_with fail
  refine (c1.out _).mono ?_; rintro e w' ⟨rfl, rfl⟩
  go_wp2_with fail
  refine (c2.out _ K.out).mono ?_; rintro e W1 ⟨rfl, hB⟩
  have B2 := Lib.hid (B.out.trans (hB.mono B.out.size))
  clear hB
  go_wp2_with fail
  go_ret2
  exact ⟨rfl, B2.out⟩
set_option maxHeartbeats 4000000 in
theorem num_num_bad (u : List UInt8) (n p : Int) (w : World) (hEnv : Env w) (hu : u = []) (hn : ¬ (-17592186044416 ≤ n ∧ n ≤ 17592186044416)) : Calls Tryz.prog 32 #[tkV ⟨2, u, n, p⟩] w (StrOut (wrS ⟨2, u, n, p⟩) (wrE ⟨2, u, n, p⟩) w) := by
  subst hu
  have ie : (tx []).toList.isEmpty = true := by rw [toList_bl]; rfl
  have ie2 : ((tx []).toList == []) = true := by rw [toList_bl]; rfl
  have hE : wrE ⟨2, [], n, p⟩ = 1 := by simp [wrE]; omega
  rw [wrS_bad _ _ hE (by decide), hE]
  have c1 := Lib.hid (isAmount_any n)
  rw [decide_eq_false hn] at c1
  clear hE hn
  have K := Lib.hid (hEnv.alloc (.cells #[.int .i64 2, .string (tx []), .int .i64 n, .int .i64 p] 25))
  have B := Lib.hid (below_box w (.cells #[.int .i64 2, .string (tx []), .int .i64 n, .int .i64 p] 25))
  clear hEnv
  unfold tkV
  go_enter Tryz.func32, Tryz.ntmps32
  go_wp2_with fail
  refine (c1.out _).mono ?_; rintro e w' ⟨rfl, rfl⟩
  go_wp2_with fail
  go_ret2
  exact ⟨rfl, B.out⟩
theorem number2_any (u : List UInt8) (n p : Int) (w : World) (hEnv : Env w) : Calls Tryz.prog 32 #[tkV ⟨2, u, n, p⟩] w (StrOut (wrS ⟨2, u, n, p⟩) (wrE ⟨2, u, n, p⟩) w) := by
  by_cases hu : u = []
  · by_cases hn : -17592186044416 ≤ n ∧ n ≤ 17592186044416
    · exact num_num u n p w hEnv hu hn
    · exact num_num_bad u n p w hEnv hu hn
  · exact num_field2 u n p w hEnv hu
theorem hour3_any (u : List UInt8) (n p : Int) (w : World) (hEnv : Env w) : Calls Tryz.prog 32 #[tkV ⟨3, u, n, p⟩] w (StrOut (wrS ⟨3, u, n, p⟩) (wrE ⟨3, u, n, p⟩) w) := by
  by_cases hu : u = []
  · by_cases hn : 0 ≤ n ∧ n ≤ 876599
    · exact num_hour u n p w hEnv hu hn
    · exact num_hour_bad u n p w hEnv hu hn
  · exact num_field3 u n p w hEnv hu
set_option maxHeartbeats 2000000 in
theorem written1 (u : List UInt8) (n p : Int) (w : World) (hEnv : Env w) (hu : u.length ≤ 9223372036854775807) : Calls Tryz.prog 12 #[tkV ⟨1, u, n, p⟩] w (StrOut (wrS ⟨1, u, n, p⟩) (wrE ⟨1, u, n, p⟩) w) := by
  have c := Lib.hid (fun w (hE : Env w) => text_name u n p w hu)
  generalize wrS ⟨1, u, n, p⟩ = f at *
  generalize wrE ⟨1, u, n, p⟩ = r at *
  have K := Lib.hid (hEnv.alloc (.cells #[.int .i64 1, .string (tx u), .int .i64 n, .int .i64 p] 25))
  have B := Lib.hid (below_box w (.cells #[.int .i64 1, .string (tx u), .int .i64 n, .int .i64 p] 25))
  clear hEnv
  unfold tkV at *
  go_enter Tryz.func12, Tryz.ntmps12
  go_wp2_with fail
  refine (c.out _ K.out).mono ?_; rintro e W1 ⟨rfl, hB⟩
  have B2 := Lib.hid (B.out.trans (hB.mono B.out.size))
  clear hB
  go_wp2_with fail
  go_ret2
  exact ⟨rfl, B2.out⟩
set_option maxHeartbeats 2000000 in
theorem written4 (u : List UInt8) (n p : Int) (w : World) (hEnv : Env w) (hu : u.length ≤ 9223372036854775807) : Calls Tryz.prog 12 #[tkV ⟨4, u, n, p⟩] w (StrOut (wrS ⟨4, u, n, p⟩) (wrE ⟨4, u, n, p⟩) w) := by
  have c := Lib.hid (fun w (hE : Env w) => text_mark u n p w)
  generalize wrS ⟨4, u, n, p⟩ = f at *
  generalize wrE ⟨4, u, n, p⟩ = r at *
  have K := Lib.hid (hEnv.alloc (.cells #[.int .i64 4, .string (tx u), .int .i64 n, .int .i64 p] 25))
  have B := Lib.hid (below_box w (.cells #[.int .i64 4, .string (tx u), .int .i64 n, .int .i64 p] 25))
  clear hEnv
  unfold tkV at *
  go_enter Tryz.func12, Tryz.ntmps12
  go_wp2_with fail
  refine (c.out _ K.out).mono ?_; rintro e W1 ⟨rfl, hB⟩
  have B2 := Lib.hid (B.out.trans (hB.mono B.out.size))
  clear hB
  go_wp2_with fail
  go_ret2
  exact ⟨rfl, B2.out⟩
set_option maxHeartbeats 2000000 in
theorem written2 (u : List UInt8) (n p : Int) (w : World) (hEnv : Env w) (hu : u.length ≤ 9223372036854775807) : Calls Tryz.prog 12 #[tkV ⟨2, u, n, p⟩] w (StrOut (wrS ⟨2, u, n, p⟩) (wrE ⟨2, u, n, p⟩) w) := by
  have c := Lib.hid (fun w hE => number2_any u n p w hE)
  generalize wrS ⟨2, u, n, p⟩ = f at *
  generalize wrE ⟨2, u, n, p⟩ = r at *
  have K := Lib.hid (hEnv.alloc (.cells #[.int .i64 2, .string (tx u), .int .i64 n, .int .i64 p] 25))
  have B := Lib.hid (below_box w (.cells #[.int .i64 2, .string (tx u), .int .i64 n, .int .i64 p] 25))
  clear hEnv
  unfold tkV at *
  go_enter Tryz.func12, Tryz.ntmps12
  go_wp2_with fail
  refine (c.out _ K.out).mono ?_; rintro e W1 ⟨rfl, hB⟩
  have B2 := Lib.hid (B.out.trans (hB.mono B.out.size))
  clear hB
  go_wp2_with fail
  go_ret2
  exact ⟨rfl, B2.out⟩
set_option maxHeartbeats 2000000 in
theorem written3 (u : List UInt8) (n p : Int) (w : World) (hEnv : Env w) (hu : u.length ≤ 9223372036854775807) : Calls Tryz.prog 12 #[tkV ⟨3, u, n, p⟩] w (StrOut (wrS ⟨3, u, n, p⟩) (wrE ⟨3, u, n, p⟩) w) := by
  have c := Lib.hid (fun w hE => hour3_any u n p w hE)
  generalize wrS ⟨3, u, n, p⟩ = f at *
  generalize wrE ⟨3, u, n, p⟩ = r at *
  have K := Lib.hid (hEnv.alloc (.cells #[.int .i64 3, .string (tx u), .int .i64 n, .int .i64 p] 25))
  have B := Lib.hid (below_box w (.cells #[.int .i64 3, .string (tx u), .int .i64 n, .int .i64 p] 25))
  clear hEnv
  unfold tkV at *
  go_enter Tryz.func12, Tryz.ntmps12
  go_wp2_with fail
  refine (c.out _ K.out).mono ?_; rintro e W1 ⟨rfl, hB⟩
  have B2 := Lib.hid (B.out.trans (hB.mono B.out.size))
  clear hB
  go_wp2_with fail
  go_ret2
  exact ⟨rfl, B2.out⟩
set_option maxHeartbeats 2000000 in
theorem written_kind (t : Tk) (w : World) (h1 : t.k ≠ 1) (h2 : t.k ≠ 2) (h3 : t.k ≠ 3) (h4 : t.k ≠ 4) : Calls Tryz.prog 12 #[tkV t] w (StrOut (wrS t) (wrE t) w) := by
  have hE : wrE t = 11 := by unfold wrE; rw [if_pos (by omega)]
  rw [wrS_bad _ _ hE (by decide), hE]
  obtain ⟨k, u, n, p⟩ := t
  have u1 : (k == 1) = false := by simpa using h1
  have u2 : (k == 2) = false := by simpa using h2
  have u3 : (k == 3) = false := by simpa using h3
  have u4 : (k == 4) = false := by simpa using h4
  unfold tkV
  clear hE h1 h2 h3 h4
  have B := Lib.hid (below_box w (.cells #[.int .i64 k, .string (tx u), .int .i64 n, .int .i64 p] 25))
  go_enter Tryz.func12, Tryz.ntmps12
  go_wp2_with fail
  go_ret2
  exact ⟨rfl, B.out⟩
theorem written_any (t : Tk) (w : World) (hE : Env w) (hu : t.t.length ≤ 9223372036854775807) : Calls Tryz.prog 12 #[tkV t] w (StrOut (wrS t) (wrE t) w) := by
  by_cases h1 : t.k = 1
  · obtain ⟨k, u, n, p⟩ := t
    obtain rfl : k = 1 := h1
    exact written1 u n p w hE hu
  · by_cases h2 : t.k = 2
    · obtain ⟨k, u, n, p⟩ := t
      obtain rfl : k = 2 := h2
      exact written2 u n p w hE hu
    · by_cases h3 : t.k = 3
      · obtain ⟨k, u, n, p⟩ := t
        obtain rfl : k = 3 := h3
        exact written3 u n p w hE hu
      · by_cases h4 : t.k = 4
        · obtain ⟨k, u, n, p⟩ := t
          obtain rfl : k = 4 := h4
          exact written4 u n p w hE hu
        · exact written_kind t w h1 h2 h3 h4
end Go.Proofs.YtaengcbjpniclaaGreatDoor.Lx
