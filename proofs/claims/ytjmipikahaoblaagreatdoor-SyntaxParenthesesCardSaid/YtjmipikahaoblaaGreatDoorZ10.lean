/- Package lexer: the text of a number, of an hour, of any token. strings.Builder: a builder of the call's own, written only. Package lexer: Join. What was joined is scanned as the same tokens (mathematics). The text of an expression: how long it is, and how it is read (mathematics). append of expressions at a step of a region that draws its order. The maker's expressions. -/
import Derived.Test.YtjmipikahaoblaaGreatDoorZ09
import Derived.Test.YtjmipikahaoblaaGreatDoorZ01
import Derived.Test.YtjmipikahaoblaaGreatDoorZ03
import Derived.Lib.FrozenHead2
import Derived.Lib.OthersKept
import Derived.Test.YtjmipikahaoblaaGreatDoorZ08
import Derived.Test.YtjmipikahaoblaaGreatDoorZ07
import Derived.Deep.RegionLaw
namespace Go.Proofs.YtjmipikahaoblaaGreatDoor.Lx
open Go.RowKit Go.Lib Go.Proofs.YtjmipikahaoblaaGreatDoor.Bas Go.Proofs.YtjmipikahaoblaaGreatDoor.Cal
set_option linter.unusedVariables false

theorem fmt_cat (n : Int) (P : Program) (w : World) : (Op.stringOp .add { data := #[64] } (fmtT n)).run P w = .ok (.string (tx (64 :: bl (fmtT n)))) w := by
  have h := tx_cat [64] (bl (fmtT n)) P w (by rw [bl_size]; have := (fmtT_size n).1; simp; omega)
  rw [tx_bl] at h
  exact h
theorem itoa_any (n : Int) (w : World) (hE : Env w) (h0 : -9223372036854775808 ≤ n) (h1 : n ≤ 9223372036854775807) : Calls Tryz.prog 140 #[.int .i64 n] w (StrBe (tx (itoa n)) w) := by
  refine (Tryz.strconv_Itoa n h0 h1 w hE.2.1).mono ?_
  rintro e w' ⟨rfl, k, os, rfl⟩
  exact ⟨rfl, Lib.below_grow _ w (Nat.le_refl _) k os⟩
theorem isEmpty_tx (u : List UInt8) (h : u ≠ []) : (tx u).toList.isEmpty = false := by
  rw [toList_bl, bl_tx]
  cases u with
  | nil => exact absurd rfl h
  | cons c r => rfl
set_option maxHeartbeats 4000000 in
theorem num_field2 (u : List UInt8) (n p : Int) (w : World) (hEnv : Env w) (hu : u ≠ []) : Calls Tryz.prog 111 #[tkV ⟨2, u, n, p⟩] w (StrOut (wrS ⟨2, u, n, p⟩) (wrE ⟨2, u, n, p⟩) w) := by
  have hE : wrE ⟨2, u, n, p⟩ = 20 := by simp [wrE, hu]
  rw [wrS_bad _ _ hE (by decide), hE]
  have ie := isEmpty_tx u hu
  have ie2 : ((tx u).toList == []) = false := by rw [toList_bl, bl_tx]; simpa using hu
  clear hE hu
  have K := Lib.hid (hEnv.alloc (.cells #[.int .i64 2, .string (tx u), .int .i64 n, .int .i64 p] 71))
  have B := Lib.hid (below_box w (.cells #[.int .i64 2, .string (tx u), .int .i64 n, .int .i64 p] 71))
  clear hEnv
  unfold tkV
  go_enter Tryz.func111, Tryz.ntmps111
  go_wp2_with fail
  go_ret2
  exact ⟨rfl, B.out⟩
set_option maxHeartbeats 4000000 in
theorem num_field3 (u : List UInt8) (n p : Int) (w : World) (hEnv : Env w) (hu : u ≠ []) : Calls Tryz.prog 111 #[tkV ⟨3, u, n, p⟩] w (StrOut (wrS ⟨3, u, n, p⟩) (wrE ⟨3, u, n, p⟩) w) := by
  have hE : wrE ⟨3, u, n, p⟩ = 20 := by simp [wrE, hu]
  rw [wrS_bad _ _ hE (by decide), hE]
  have ie := isEmpty_tx u hu
  have ie2 : ((tx u).toList == []) = false := by rw [toList_bl, bl_tx]; simpa using hu
  clear hE hu
  have K := Lib.hid (hEnv.alloc (.cells #[.int .i64 3, .string (tx u), .int .i64 n, .int .i64 p] 71))
  have B := Lib.hid (below_box w (.cells #[.int .i64 3, .string (tx u), .int .i64 n, .int .i64 p] 71))
  clear hEnv
  unfold tkV
  go_enter Tryz.func111, Tryz.ntmps111
  go_wp2_with fail
  go_ret2
  exact ⟨rfl, B.out⟩
set_option maxHeartbeats 4000000 in
theorem num_hour (u : List UInt8) (n p : Int) (w : World) (hEnv : Env w) (hu : u = []) (hn : 0 ≤ n ∧ n ≤ 876599) : Calls Tryz.prog 111 #[tkV ⟨3, u, n, p⟩] w (StrOut (wrS ⟨3, u, n, p⟩) (wrE ⟨3, u, n, p⟩) w) := by
  subst hu
  have ie : (tx []).toList.isEmpty = true := by rw [toList_bl]; rfl
  have ie2 : ((tx []).toList == []) = true := by rw [toList_bl]; rfl
  have hE : wrE ⟨3, [], n, p⟩ = 0 := by simp [wrE, hn]
  have hS : wrS ⟨3, [], n, p⟩ = tx (64 :: bl (fmtT n)) := by unfold wrS; rw [if_pos hE]; rfl
  rw [hE, hS]
  have c := Lib.hid (fun w hT => format_any n w hT)
  rw [show fmtV n = (fmtT n, 0) by unfold fmtV; rw [if_pos hn]] at c
  have hcat := fmt_cat n Tryz.prog
  generalize fmtT n = f at *
  generalize tx (64 :: bl f) = f2 at *
  clear hE hS hn
  have K := Lib.hid (hEnv.alloc (.cells #[.int .i64 3, .string (tx []), .int .i64 n, .int .i64 p] 71))
  have B := Lib.hid (below_box w (.cells #[.int .i64 3, .string (tx []), .int .i64 n, .int .i64 p] 71))
  clear hEnv
  unfold tkV
  go_enter Tryz.func111, Tryz.ntmps111
  go_wp2_with fail
  refine (c.out _ K.out.1).mono ?_; rintro e W1 ⟨rfl, hB⟩
  have B2 := Lib.hid (B.out.trans (hB.mono B.out.size))
  clear hB
  go_wp2_with fail
  go_ret2
  exact ⟨rfl, B2.out⟩
set_option maxHeartbeats 4000000 in
theorem num_hour_bad (u : List UInt8) (n p : Int) (w : World) (hEnv : Env w) (hu : u = []) (hn : ¬ (0 ≤ n ∧ n ≤ 876599)) : Calls Tryz.prog 111 #[tkV ⟨3, u, n, p⟩] w (StrOut (wrS ⟨3, u, n, p⟩) (wrE ⟨3, u, n, p⟩) w) := by
  subst hu
  have ie : (tx []).toList.isEmpty = true := by rw [toList_bl]; rfl
  have ie2 : ((tx []).toList == []) = true := by rw [toList_bl]; rfl
  have hE : wrE ⟨3, [], n, p⟩ = 1 := by simp [wrE, hn]
  rw [wrS_bad _ _ hE (by decide), hE]
  have c := Lib.hid (fun w hT => format_any n w hT)
  rw [show fmtV n = ({ data := #[] }, 1) by unfold fmtV; rw [if_neg hn]] at c
  clear hE hn
  have K := Lib.hid (hEnv.alloc (.cells #[.int .i64 3, .string (tx []), .int .i64 n, .int .i64 p] 71))
  have B := Lib.hid (below_box w (.cells #[.int .i64 3, .string (tx []), .int .i64 n, .int .i64 p] 71))
  clear hEnv
  unfold tkV
  go_enter Tryz.func111, Tryz.ntmps111
  go_wp2_with fail
  refine (c.out _ K.out.1).mono ?_; rintro e W1 ⟨rfl, hB⟩
  have B2 := Lib.hid (B.out.trans (hB.mono B.out.size))
  clear hB
  go_wp2_with fail
  go_ret2
  exact ⟨rfl, B2.out⟩
set_option maxHeartbeats 4000000 in
theorem num_num (u : List UInt8) (n p : Int) (w : World) (hEnv : Env w) (hu : u = []) (hn : -17592186044416 ≤ n ∧ n ≤ 17592186044416) : Calls Tryz.prog 111 #[tkV ⟨2, u, n, p⟩] w (StrOut (wrS ⟨2, u, n, p⟩) (wrE ⟨2, u, n, p⟩) w) := by
  subst hu
  have ie : (tx []).toList.isEmpty = true := by rw [toList_bl]; rfl
  have ie2 : ((tx []).toList == []) = true := by rw [toList_bl]; rfl
  have hE : wrE ⟨2, [], n, p⟩ = 0 := by simp [wrE, hn]
  have hS : wrS ⟨2, [], n, p⟩ = tx (itoa n) := by unfold wrS; rw [if_pos hE]; rfl
  rw [hE, hS]
  have c1 := Lib.hid (isAmount_any n)
  rw [decide_eq_true hn] at c1
  have c2 := Lib.hid (fun w hE => itoa_any n w hE (by omega) (by omega))
  generalize tx (itoa n) = f at *
  clear hE hS hn
  have K := Lib.hid (hEnv.alloc (.cells #[.int .i64 2, .string (tx []), .int .i64 n, .int .i64 p] 71))
  have B := Lib.hid (below_box w (.cells #[.int .i64 2, .string (tx []), .int .i64 n, .int .i64 p] 71))
  clear hEnv
  unfold tkV
  go_enter Tryz.func111, Tryz.ntmps111
  go_wp2_with fail
  refine (c1.out _).mono ?_; rintro e w' ⟨rfl, rfl⟩
  go_wp2_with fail
  refine (c2.out _ K.out).mono ?_; rintro e W1 ⟨rfl, hB⟩
  have B2 := Lib.hid (B.out.trans (hB.mono B.out.size))
  clear hB
  go_wp2_with fail
  go_ret2
  exact ⟨rfl, B2.out⟩
set_option maxHeartbeats 4000000 in
theorem num_num_bad (u : List UInt8) (n p : Int) (w : World) (hEnv : Env w) (hu : u = []) (hn : ¬ (-17592186044416 ≤ n ∧ n ≤ 17592186044416)) : Calls Tryz.prog 111 #[tkV ⟨2, u, n, p⟩] w (StrOut (wrS ⟨2, u, n, p⟩) (wrE ⟨2, u, n, p⟩) w) := by
  subst hu
  have ie : (tx []).toList.isEmpty = true := by rw [toList_bl]; rfl
  have ie2 : ((tx []).toList == []) = true := by rw [toList_bl]; rfl
  have hE : wrE ⟨2, [], n, p⟩ = 1 := by simp [wrE]; omega
  rw [wrS_bad _ _ hE (by decide), hE]
  have c1 := Lib.hid (isAmount_any n)
  rw [decide_eq_false hn] at c1
  clear hE hn
  have K := Lib.hid (hEnv.alloc (.cells #[.int .i64 2, .string (tx []), .int .i64 n, .int .i64 p] 71))
  have B := Lib.hid (below_box w (.cells #[.int .i64 2, .string (tx []), .int .i64 n, .int .i64 p] 71))
  clear hEnv
  unfold tkV
  go_enter Tryz.func111, Tryz.ntmps111
  go_wp2_with fail
  refine (c1.out _).mono ?_; rintro e w' ⟨rfl, rfl⟩
  go_wp2_with fail
  go_ret2
  exact ⟨rfl, B.out⟩
theorem number2_any (u : List UInt8) (n p : Int) (w : World) (hEnv : Env w) : Calls Tryz.prog 111 #[tkV ⟨2, u, n, p⟩] w (StrOut (wrS ⟨2, u, n, p⟩) (wrE ⟨2, u, n, p⟩) w) := by
  by_cases hu : u = []
  · by_cases hn : -17592186044416 ≤ n ∧ n ≤ 17592186044416
    · exact num_num u n p w hEnv hu hn
    · exact num_num_bad u n p w hEnv hu hn
  · exact num_field2 u n p w hEnv hu
theorem hour3_any (u : List UInt8) (n p : Int) (w : World) (hEnv : Env w) : Calls Tryz.prog 111 #[tkV ⟨3, u, n, p⟩] w (StrOut (wrS ⟨3, u, n, p⟩) (wrE ⟨3, u, n, p⟩) w) := by
  by_cases hu : u = []
  · by_cases hn : 0 ≤ n ∧ n ≤ 876599
    · exact num_hour u n p w hEnv hu hn
    · exact num_hour_bad u n p w hEnv hu hn
  · exact num_field3 u n p w hEnv hu
set_option maxHeartbeats 2000000 in
theorem written1 (u : List UInt8) (n p : Int) (w : World) (hEnv : Env w) (hu : u.length ≤ 9223372036854775807) : Calls Tryz.prog 63 #[tkV ⟨1, u, n, p⟩] w (StrOut (wrS ⟨1, u, n, p⟩) (wrE ⟨1, u, n, p⟩) w) := by
  have c := Lib.hid (fun w (hE : Env w) => text_name u n p w hu)
  generalize wrS ⟨1, u, n, p⟩ = f at *
  generalize wrE ⟨1, u, n, p⟩ = r at *
  have K := Lib.hid (hEnv.alloc (.cells #[.int .i64 1, .string (tx u), .int .i64 n, .int .i64 p] 71))
  have B := Lib.hid (below_box w (.cells #[.int .i64 1, .string (tx u), .int .i64 n, .int .i64 p] 71))
  clear hEnv
  unfold tkV at *
  go_enter Tryz.func63, Tryz.ntmps63
  go_wp2_with fail
  refine (c.out _ K.out).mono ?_; rintro e W1 ⟨rfl, hB⟩
  have B2 := Lib.hid (B.out.trans (hB.mono B.out.size))
  clear hB
  go_wp2_with fail
  go_ret2
  exact ⟨rfl, B2.out⟩
set_option maxHeartbeats 2000000 in
theorem written4 (u : List UInt8) (n p : Int) (w : World) (hEnv : Env w) (hu : u.length ≤ 9223372036854775807) : Calls Tryz.prog 63 #[tkV ⟨4, u, n, p⟩] w (StrOut (wrS ⟨4, u, n, p⟩) (wrE ⟨4, u, n, p⟩) w) := by
  have c := Lib.hid (fun w (hE : Env w) => text_mark u n p w)
  generalize wrS ⟨4, u, n, p⟩ = f at *
  generalize wrE ⟨4, u, n, p⟩ = r at *
  have K := Lib.hid (hEnv.alloc (.cells #[.int .i64 4, .string (tx u), .int .i64 n, .int .i64 p] 71))
  have B := Lib.hid (below_box w (.cells #[.int .i64 4, .string (tx u), .int .i64 n, .int .i64 p] 71))
  clear hEnv
  unfold tkV at *
  go_enter Tryz.func63, Tryz.ntmps63
  go_wp2_with fail
  refine (c.out _ K.out).mono ?_; rintro e W1 ⟨rfl, hB⟩
  have B2 := Lib.hid (B.out.trans (hB.mono B.out.size))
  clear hB
  go_wp2_with fail
  go_ret2
  exact ⟨rfl, B2.out⟩
set_option maxHeartbeats 2000000 in
theorem written2 (u : List UInt8) (n p : Int) (w : World) (hEnv : Env w) (hu : u.length ≤ 9223372036854775807) : Calls Tryz.prog 63 #[tkV ⟨2, u, n, p⟩] w (StrOut (wrS ⟨2, u, n, p⟩) (wrE ⟨2, u, n, p⟩) w) := by
  have c := Lib.hid (fun w hE => number2_any u n p w hE)
  generalize wrS ⟨2, u, n, p⟩ = f at *
  generalize wrE ⟨2, u, n, p⟩ = r at *
  have K := Lib.hid (hEnv.alloc (.cells #[.int .i64 2, .string (tx u), .int .i64 n, .int .i64 p] 71))
  have B := Lib.hid (below_box w (.cells #[.int .i64 2, .string (tx u), .int .i64 n, .int .i64 p] 71))
  clear hEnv
  unfold tkV at *
  go_enter Tryz.func63, Tryz.ntmps63
  go_wp2_with fail
  refine (c.out _ K.out).mono ?_; rintro e W1 ⟨rfl, hB⟩
  have B2 := Lib.hid (B.out.trans (hB.mono B.out.size))
  clear hB
  go_wp2_with fail
  go_ret2
  exact ⟨rfl, B2.out⟩
set_option maxHeartbeats 2000000 in
theorem written3 (u : List UInt8) (n p : Int) (w : World) (hEnv : Env w) (hu : u.length ≤ 9223372036854775807) : Calls Tryz.prog 63 #[tkV ⟨3, u, n, p⟩] w (StrOut (wrS ⟨3, u, n, p⟩) (wrE ⟨3, u, n, p⟩) w) := by
  have c := Lib.hid (fun w hE => hour3_any u n p w hE)
  generalize wrS ⟨3, u, n, p⟩ = f at *
  generalize wrE ⟨3, u, n, p⟩ = r at *
  have K := Lib.hid (hEnv.alloc (.cells #[.int .i64 3, .string (tx u), .int .i64 n, .int .i64 p] 71))
  have B := Lib.hid (below_box w (.cells #[.int .i64 3, .string (tx u), .int .i64 n, .int .i64 p] 71))
  clear hEnv
  unfold tkV at *
  go_enter Tryz.func63, Tryz.ntmps63
  go_wp2_with fail
  refine (c.out _ K.out).mono ?_; rintro e W1 ⟨rfl, hB⟩
  have B2 := Lib.hid (B.out.trans (hB.mono B.out.size))
  clear hB
  go_wp2_with fail
  go_ret2
  exact ⟨rfl, B2.out⟩
set_option maxHeartbeats 2000000 in
theorem written_kind (t : Tk) (w : World) (h1 : t.k ≠ 1) (h2 : t.k ≠ 2) (h3 : t.k ≠ 3) (h4 : t.k ≠ 4) : Calls Tryz.prog 63 #[tkV t] w (StrOut (wrS t) (wrE t) w) := by
  have hE : wrE t = 11 := by unfold wrE; rw [if_pos (by omega)]
  rw [wrS_bad _ _ hE (by decide), hE]
  obtain ⟨k, u, n, p⟩ := t
  have u1 : (k == 1) = false := by simpa using h1
  have u2 : (k == 2) = false := by simpa using h2
  have u3 : (k == 3) = false := by simpa using h3
  have u4 : (k == 4) = false := by simpa using h4
  unfold tkV
  clear hE h1 h2 h3 h4
  have B := Lib.hid (below_box w (.cells #[.int .i64 k, .string (tx u), .int .i64 n, .int .i64 p] 71))
  go_enter Tryz.func63, Tryz.ntmps63
  go_wp2_with fail
  go_ret2
  exact ⟨rfl, B.out⟩
theorem written_any (t : Tk) (w : World) (hE : Env w) (hu : t.t.length ≤ 9223372036854775807) : Calls Tryz.prog 63 #[tkV t] w (StrOut (wrS t) (wrE t) w) := by
  by_cases h1 : t.k = 1
  · obtain ⟨k, u, n, p⟩ := t
    obtain rfl : k = 1 := h1
    exact written1 u n p w hE hu
  · by_cases h2 : t.k = 2
    · obtain ⟨k, u, n, p⟩ := t
      obtain rfl : k = 2 := h2
      exact written2 u n p w hE hu
    · by_cases h3 : t.k = 3
      · obtain ⟨k, u, n, p⟩ := t
        obtain rfl : k = 3 := h3
        exact written3 u n p w hE hu
      · by_cases h4 : t.k = 4
        · obtain ⟨k, u, n, p⟩ := t
          obtain rfl : k = 4 := h4
          exact written4 u n p w hE hu
        · exact written_kind t w h1 h2 h3 h4
end Go.Proofs.YtjmipikahaoblaaGreatDoor.Lx
namespace Go.Proofs.YtjmipikahaoblaaGreatDoor.Lx
open Go.RowKit Go.Lib Go.Proofs.YtjmipikahaoblaaGreatDoor.Bas Go.Proofs.YtjmipikahaoblaaGreatDoor.Cal
set_option linter.unusedVariables false

/-- A builder at block b, of the call's own blocks from B on, that holds the bytes l. -/
def Bld (B b : Nat) (l : List UInt8) (w : World) : Prop := Lib.IsBuilderF 93 5 B b (Lib.byteCells l) w
theorem info_bld : ∃ j, Tryz.prog.info? 93 = some j ∧ j.size = 2 := by
  have h : (Tryz.prog.info? 93).map (·.size) = some 2 := by kernel_rfl
  obtain ⟨j, hj, hs⟩ := Option.map_eq_some_iff.1 h
  exact ⟨j, hj, hs⟩
theorem lies_bld : liesAt Tryz.prog Tryz.prog.depth 93 (2 / Tryz.prog.cellsOf 93) 0 93 1 = true := by kernel_rfl
theorem info_byte : ∃ i, Tryz.prog.info? 5 = some i ∧ i.zero = some (.int .u8 0) ∧ i.size = 1 ∧ i.bytes = 1 := by
  have h : (Tryz.prog.info? 5).map (fun i => (i.zero, i.size, i.bytes)) = some (some (.int .u8 0), 1, 1) := by kernel_rfl
  cases hh : Tryz.prog.info? 5 with
  | none => rw [hh] at h; simp at h
  | some i => rw [hh] at h; simp at h; exact ⟨i, rfl, h.1, h.2.1, h.2.2⟩
set_option maxRecDepth 100000 in
set_option maxHeartbeats 1000000 in
theorem check_used (b : Nat) (w : World) (h0 : w.cell? ⟨b, 0, none⟩ = some (.pointer (some ⟨b, 0, none⟩))) :
    Calls Tryz.prog 113 #[.pointer (some ⟨b, 0, none⟩)] w fun e w' => e = .returned (.tuple #[]) ∧ w' = w := by
  obtain ⟨j, hj, hjs⟩ := info_bld
  go_enter Tryz.func113, Tryz.ntmps113
  go_wp2
  rw [Lib.run_neq_ptr_same w _ Tryz.underlying90 hj]
  go_wp2
  go_end0
  exact ⟨rfl, rfl⟩
set_option maxRecDepth 100000 in
set_option maxHeartbeats 1000000 in
theorem check_fresh (b : Nat) (w : World) (h0 : w.cell? ⟨b, 0, none⟩ = some (.pointer none)) (hsh : w.shape? b = some (93, 2)) (hfz : w.frozen? ⟨b, 0, none⟩ = false) :
    Calls Tryz.prog 113 #[.pointer (some ⟨b, 0, none⟩)] w fun e w' => e = .returned (.tuple #[]) ∧ w' = w.setCell ⟨b, 0, none⟩ (.pointer (some ⟨b, 0, none⟩)) := by
  obtain ⟨j, hj, hjs⟩ := info_bld
  go_enter Tryz.func113, Tryz.ntmps113
  go_wp2
  rw [Lib.run_to_unsafe w ⟨b, 0, none⟩ Tryz.underlying90 Tryz.underlying152 hj (by rw [hjs]; decide) hsh (Nat.zero_lt_succ 1)]
  simp only [Result.andThen]
  rw [Oper.upon_value]
  go_wp2
  rw [run_callFunc_extern Tryz.func142 (by kernel_rfl) (by kernel_rfl) (by kernel_rfl) (e := Extern.AbiNoEscape.same) (by kernel_rfl)]
  rw [Lib.run_noEscape]
  simp only [Result.andThen]
  rw [Oper.upon_value]
  go_wp2
  rw [Lib.run_from_unsafe w ⟨b, 0, none⟩ Tryz.underlying152 Tryz.underlying90 hj hsh lies_bld]
  simp only [Result.andThen]
  rw [Oper.upon_value]
  go_wp2
  go_end0
  exact ⟨rfl, rfl⟩
/-- Behind copyCheck the builder holds its own address. -/
theorem check_any (B b : Nat) (l : List UInt8) (w : World) (h : Bld B b l w) :
    Calls Tryz.prog 113 #[.pointer (some ⟨b, 0, none⟩)] w fun e w' => e = .returned (.tuple #[]) ∧ Lib.BuilderAtF 93 5 B b (.pointer (some ⟨b, 0, none⟩)) (Lib.byteCells l) w' ∧ Below B w w' := by
  rcases h with h | h
  · refine (check_fresh b w h.cell0 h.shape h.frozen0).mono ?_
    rintro e w' ⟨rfl, rfl⟩
    exact ⟨rfl, h.used _, (Below.refl B w).setCell (p := ⟨b, 0, none⟩) h.1 _⟩
  · refine (check_used b w h.cell0).mono ?_
    rintro e w' ⟨rfl, rfl⟩
    exact ⟨rfl, h, Below.refl B _⟩
theorem cells_snoc (l : List UInt8) (c : UInt8) : Lib.byteCells l ++ [.int .u8 (c.toNat : Int)] = Lib.byteCells (l ++ [c]) := by simp [Lib.byteCells]
theorem cells_string (l m : List UInt8) : Lib.byteCells l ++ Lib.strCells (tx m) = Lib.byteCells (l ++ m) := by simp [Lib.byteCells, Lib.strCells, tx]
theorem bld_row {T e : TypeId} {B b : Nat} {p : Value} {bs : List Value} {w : World} (h : Lib.BuilderAtF T e B b p bs w) : b < w.heap.size := h.lt
set_option maxHeartbeats 2000000 in
set_option maxRecDepth 100000 in
theorem write_byte (B b : Nat) (l : List UInt8) (c : UInt8) (w : World) (h : Bld B b l w) (hlen : l.length ≤ 1000000) (hBw : B ≤ w.heap.size) :
    Calls Tryz.prog 65 #[.pointer (some ⟨b, 0, none⟩), .int .u8 (c.toNat : Int)] w fun e w' => e = .returned .nilIface ∧ Bld B b (l ++ [c]) w' ∧ Below B w w' := by
  obtain ⟨i0, hi, hz0, hz1, hz2⟩ := info_byte
  have hnn : (Lib.byteCells l).length = l.length := Lib.byteCells_length l
  go_enter Tryz.func65, Tryz.ntmps65
  go_wp2_with (go_at_call 113; refine (check_any B b l _ h).mono ?_)
  rintro e w1 ⟨rfl, h1, hb1⟩
  have hlt := h1.lt
  obtain ⟨hB, v, hbk, hown, hne⟩ := h1
  have c0 : w1.cell? ⟨b, 0, none⟩ = some (.pointer (some ⟨b, 0, none⟩)) := by rw [Lib.cell_of_heap hbk]; rfl
  have c1 : w1.cell? ⟨b, 1, none⟩ = some v := by rw [Lib.cell_of_heap hbk]; rfl
  have hs1 := hb1.size
  go_wp2_with (at_builtin; refine wpList_append_ownF _ rfl _ _ 91 rfl B 5 i0 (.int .u8 0) 1 1 Tryz.underlying91 hi hz0 hz1 hz2 rfl (by decide) _ _ _ rfl (hown.alloc _) ⟨w1.heap.size, 0, none⟩ 1 1 [.int .u8 (c.toNat : Int)] rfl rfl ?c1 ?c2 ?c3 ?c4 ?c5 ?_)
  case c1 =>
    intro j u hj
    match j, hj with
    | 0, hj => simp at hj; subst hj; simp [Addr.add]
  case c2 => intro u hu; simp at hu; subst hu; rfl
  case c3 => unfold maxLen; omega
  case c4 => omega
  case c5 => simp; omega
  intro v' w2 hown' hgrow _
  have hb2 : w2.heap[b]? = some (.cells #[.pointer (some ⟨b, 0, none⟩), v] 93 (0, 0)) := by
    rw [hgrow.block b (by simp; omega) (fun e => hne e.symm), Lib.alloc_old w1 _ b hlt]
    exact hbk
  have d0 : w2.cell? ⟨b, 0, none⟩ = some (.pointer (some ⟨b, 0, none⟩)) := by rw [Lib.cell_of_heap hb2]; rfl
  have d1 : w2.cell? ⟨b, 1, none⟩ = some v := by rw [Lib.cell_of_heap hb2]; rfl
  have f1 : w2.frozen? ⟨b, 1, none⟩ = false := Lib.frozen_of_heap hb2 1
  obtain ⟨g, cap, rfl⟩ : ∃ g cap, v' = .slice (some ⟨g, 0, none⟩) (l.length + 1) cap := by
    rcases hown'.2 with ⟨_, h0⟩ | ⟨g, cap, cur, fz, hv, _⟩
    · omega
    · exact ⟨g, cap, hv⟩
  go_wp2
  go_ret
  refine ⟨rfl, ?_, ?_⟩
  · rw [cells_snoc] at hown'
    have hown2 : w2.ownsRowF B 5 1 (.slice (some ⟨g, 0, none⟩) (l.length + 1) cap) (Lib.byteCells (l ++ [c])).length (Lib.byteCells (l ++ [c])) := by
      rw [Lib.byteCells_length, List.length_append]; exact hown'
    exact .inr (Lib.BuilderAtF.put (T := 93) (e := 5) hB hb2 (bs' := Lib.byteCells (l ++ [c])) hown2 (by decide))
  · exact ((hb1.alloc (by omega) _).grown hgrow (by simp; omega) (fun k hk => (hown.lt k hk).1)).setCell (p := ⟨b, 1, none⟩) hB _
set_option maxHeartbeats 2000000 in
set_option maxRecDepth 100000 in
theorem write_string (B b : Nat) (l m : List UInt8) (w : World) (h : Bld B b l w) (hlen : l.length + m.length ≤ 1000000) (hBw : B ≤ w.heap.size) :
    Calls Tryz.prog 66 #[.pointer (some ⟨b, 0, none⟩), .string (tx m)] w fun e w' => (∃ u, e = .returned u) ∧ Bld B b (l ++ m) w' ∧ Below B w w' := by
  obtain ⟨i0, hi, hz0, hz1, hz2⟩ := info_byte
  have hnn : (Lib.byteCells l).length = l.length := Lib.byteCells_length l
  have hmm := tx_size m
  go_enter Tryz.func66, Tryz.ntmps66
  go_wp2_with (go_at_call 113; refine (check_any B b l _ h).mono ?_)
  rintro e w1 ⟨rfl, h1, hb1⟩
  have hlt := h1.lt
  obtain ⟨hB, v, hbk, hown, hne⟩ := h1
  have c0 : w1.cell? ⟨b, 0, none⟩ = some (.pointer (some ⟨b, 0, none⟩)) := by rw [Lib.cell_of_heap hbk]; rfl
  have c1 : w1.cell? ⟨b, 1, none⟩ = some v := by rw [Lib.cell_of_heap hbk]; rfl
  have hs1 := hb1.size
  go_wp2_with (at_builtin; refine Lib.wpList_append_own_stringF _ rfl _ _ 91 9 rfl B 5 i0 Tryz.underlying91 Tryz.underlying9 hi hz0 hz1 hz2 _ _ _ rfl hown (tx m) rfl ?c3 ?c4 ?c5 ?_)
  case c3 => unfold maxLen; omega
  case c4 => omega
  case c5 => omega
  intro v' w2 hown' hgrow _
  have hb2 : w2.heap[b]? = some (.cells #[.pointer (some ⟨b, 0, none⟩), v] 93 (0, 0)) := by
    rw [hgrow.block b hlt (fun e => hne e.symm)]
    exact hbk
  have d0 : w2.cell? ⟨b, 0, none⟩ = some (.pointer (some ⟨b, 0, none⟩)) := by rw [Lib.cell_of_heap hb2]; rfl
  have d1 : w2.cell? ⟨b, 1, none⟩ = some v := by rw [Lib.cell_of_heap hb2]; rfl
  have f1 : w2.frozen? ⟨b, 1, none⟩ = false := Lib.frozen_of_heap hb2 1
  obtain ⟨ao, n', cap, rfl⟩ : ∃ ao n' cap, v' = .slice ao n' cap := by
    rcases hown'.2 with ⟨hv, _⟩ | ⟨g, cap, cur, fz, hv, _⟩
    · exact ⟨_, _, _, hv⟩
    · exact ⟨_, _, _, hv⟩
  go_wp2
  go_ret2
  refine ⟨⟨_, rfl⟩, ?_, ?_⟩
  · rw [cells_string] at hown'
    have hown2 : w2.ownsRowF B 5 1 (.slice ao n' cap) (Lib.byteCells (l ++ m)).length (Lib.byteCells (l ++ m)) := by
      rw [Lib.byteCells_length, List.length_append]; exact hown'
    exact .inr (Lib.BuilderAtF.put (T := 93) (e := 5) hB hb2 (bs' := Lib.byteCells (l ++ m)) hown2 (by decide))
  · exact (hb1.grown hgrow (by omega) (fun k hk => (hown.lt k hk).1)).setCell (p := ⟨b, 1, none⟩) hB _
end Go.Proofs.YtjmipikahaoblaaGreatDoor.Lx
namespace Go.Proofs.YtjmipikahaoblaaGreatDoor.Lx
open Go.RowKit Go.Lib Go.Proofs.YtjmipikahaoblaaGreatDoor.Bas Go.Proofs.YtjmipikahaoblaaGreatDoor.Cal
set_option linter.unusedVariables false

theorem joinE_all (l : List Tk) (h : ∀ j, j < l.length → wrE (tk l j) = 0) : joinE l = 0 := by
  induction l with
  | nil => rfl
  | cons t r ih =>
    have h0 : wrE t = 0 := h 0 (by simp)
    rw [joinE, if_neg (by simpa using h0)]
    exact ih (fun j hj => h (j + 1) (by simpa using hj))
theorem joinE_at (l : List Tk) : ∀ k, k < l.length → (∀ j, j < k → wrE (tk l j) = 0) → wrE (tk l k) ≠ 0 → joinE l = wrE (tk l k) := by
  induction l with
  | nil => intro k h; simp at h
  | cons t r ih =>
    intro k hk h he
    cases k with
    | zero =>
      have e : tk (t :: r) 0 = t := rfl
      rw [e] at he ⊢
      rw [joinE, if_pos he]
    | succ k =>
      have h0 : wrE t = 0 := h 0 (by omega)
      rw [joinE, if_neg (by simpa using h0)]
      exact ih k (by simpa using hk) (fun j hj => h (j + 1) (by omega)) he
theorem joinT_step (last : List UInt8) (l : List Tk) (k : Nat) (h : k < l.length) : joinT last (l.drop k) = gap last (wr (tk l k)) ++ (wr (tk l k) ++ joinT (wr (tk l k)) (l.drop (k + 1))) := by
  rw [List.drop_eq_getElem_cons h, tk_at l k h]
  rfl
theorem joinT_end (last : List UInt8) (l : List Tk) (k : Nat) (h : l.length ≤ k) : joinT last (l.drop k) = [] := by rw [List.drop_of_length_le h]; rfl
theorem gap_len (a b : List UInt8) : (gap a b).length ≤ 1 := by unfold gap; split <;> simp
theorem markB_le {u : List UInt8} (h : markB u = true) : u.length = 1 := by
  rcases of_decide_eq_true h with h | h | h | h | h <;> rw [h] <;> rfl
theorem wr_len (t : Tk) (h : wrE t = 0) : (wr t).length ≤ 21 := by
  unfold wr
  split
  · rename_i h2
    unfold wrE at h
    rw [if_neg (by omega), if_neg (by omega)] at h
    split at h
    · cases h
    · rw [if_neg (by omega)] at h
      split at h
      · exact Lib.itoa_length_le _ (by omega) (by omega)
      · cases h
  · split
    · have := (fmtT_size t.n).1
      rw [List.length_cons, bl_size]
      omega
    · rename_i h2 h3
      unfold wrE at h
      split at h
      · cases h
      · rw [if_pos (by omega)] at h
        split at h
        · cases h
        · split at h
          · split at h
            · rename_i hw
              have := (of_decide_eq_true hw).2.1
              omega
            · cases h
          · split at h
            · rename_i hw
              have := markB_le hw
              omega
            · cases h
/-- A text and an error. -/
def JoinOut (V : List UInt8 × Int) (w : World) (e : Ending) (w' : World) : Prop := e = .returned (.tuple #[.string (tx V.1), .int .i64 V.2]) ∧ Below w.heap.size w w'
theorem join_far (v : Value) (l : List Tk) (w : World) (h : TksAt w v l) (h4 : 4000 < l.length) (hl : l.length ≤ 9223372036854775807) : Calls Tryz.prog 47 #[v] w (JoinOut (joinV l) w) := by
  rw [show joinV l = ([], 4) by unfold joinV; rw [if_pos h4]]
  obtain ⟨p, c, rfl, _, _⟩ := h
  have t1 : decide ((4000 : Int) < (l.length : Int)) = true := by simp; omega
  have t2 : decide (4000 < l.length) = true := by simp; omega
  go_enter Tryz.func47, Tryz.ntmps47
  go_wp2_with fail
  try any_goals (exfalso; omega; done)
  go_ret2
  exact ⟨rfl, Below.refl _ _⟩
theorem wlen_any (B b : Nat) (l : List UInt8) (w : World) (h : Bld B b l w) : Calls Tryz.prog 67 #[.pointer (some ⟨b, 0, none⟩)] w fun e w' => e = .returned (.int .i64 (l.length : Int)) ∧ w = w' := by
  refine (Tryz.Builder_Len_f B b _ w h).mono ?_
  rintro e w' ⟨rfl, rfl⟩
  exact ⟨by rw [Lib.byteCells_length], rfl⟩
theorem wstr_any (B b : Nat) (l : List UInt8) (w : World) (h : Bld B b l w) (hB : B ≤ w.heap.size) : Calls Tryz.prog 68 #[.pointer (some ⟨b, 0, none⟩)] w fun e w' => e = .returned (.string (tx l)) ∧ Below B w w' := by
  refine (Tryz.Builder_String_any_k B b l w h hB).mono ?_
  rintro e w' ⟨rfl, _, hb, _⟩
  exact ⟨rfl, hb⟩
/-- A builder stays where nothing of before is written. -/
theorem Bld.keep {B b : Nat} {l : List UInt8} {w w' : World} (h : Bld B b l w) (hb : Below w.heap.size w w') : Bld B b l w' := by
  have key : ∀ p, Lib.BuilderAtF 93 5 B b p (Lib.byteCells l) w → Lib.BuilderAtF 93 5 B b p (Lib.byteCells l) w' := by
    rintro p h
    have hlt := h.lt
    obtain ⟨hB, v, hbk, hown, hne⟩ := h
    refine ⟨hB, v, by rw [hb.block b hlt]; exact hbk, ?_, hne⟩
    have hl := hown.lt
    obtain ⟨h1, h2⟩ := hown
    refine ⟨h1, ?_⟩
    rcases h2 with h2 | ⟨g, cap, cur, fz, hv, hg, hh, r⟩
    · exact .inl h2
    · exact .inr ⟨g, cap, cur, fz, hv, hg, by rw [hb.block g (hl g (by subst hv; rfl)).2]; exact hh, r⟩
  rcases h with h | h
  · exact .inl (key _ h)
  · exact .inr (key _ h)
theorem bld_new (w : World) : Bld w.heap.size w.heap.size [] (w.alloc (.cells #[.pointer none, .slice none 0 0] 93)) :=
  Lib.IsBuilderF.of (Lib.fresh_isBuilder _ _ w)
end Go.Proofs.YtjmipikahaoblaaGreatDoor.Lx
namespace Go.Proofs.YtjmipikahaoblaaGreatDoor.Lx
open Go.RowKit Go.Lib Go.Proofs.YtjmipikahaoblaaGreatDoor.Bas Go.Proofs.YtjmipikahaoblaaGreatDoor.Cal
set_option linter.unusedVariables false

/-- Nothing that continues a token stands ahead: the end, a blank, a line feed or a mark. -/
def Sep (r : List UInt8) : Prop := r = [] ∨ (∃ c q, r = c :: q ∧ (c = 32 ∨ c = 10 ∨ markB [c] = true))
theorem sep_byte {r : List UInt8} (h : Sep r) (f : UInt8 → Bool) (h32 : f 32 = false) (h10 : f 10 = false) (hm : ∀ c, markB [c] = true → f c = false) : r = [] ∨ f (r.getD 0 0) = false := by
  rcases h with h | ⟨c, q, rfl, hc⟩
  · exact .inl h
  · right
    show f c = false
    rcases hc with rfl | rfl | hc
    · exact h32
    · exact h10
    · exact hm c hc
theorem mark_out (f : UInt8 → Bool) (h1 : f 59 = false) (h2 : f 58 = false) (h3 : f 44 = false) (h4 : f 40 = false) (h5 : f 41 = false) : ∀ c, markB [c] = true → f c = false := by
  intro c hc
  rcases mark_cases c hc with rfl | rfl | rfl | rfl | rfl <;> assumption
theorem sep_stp {r : List UInt8} (h : Sep r) : stp r = false := by
  rcases h with rfl | ⟨c, q, rfl, hc⟩
  · rfl
  · rcases hc with rfl | rfl | hc
    · rfl
    · rfl
    · rcases mark_cases c hc with rfl | rfl | rfl | rfl | rfl <;> rfl
theorem take_app (w r : List UInt8) : (w ++ r).take w.length = w := by simp
theorem drop_app (w r : List UInt8) : (w ++ r).drop w.length = r := by simp
/-- A word is read. -/
theorem first_name (w r : List UInt8) (hw : wordB w = true) (hr : Sep r) : firstV (w ++ r) = (⟨1, w, 0, 0⟩, w.length, 0) := by
  obtain ⟨h1, h2, h3, h4, h5⟩ := of_decide_eq_true hw
  have hs : spn inW (w ++ r) = w.length := spn_append inW w r h5 (sep_byte hr inW rfl rfl (mark_out _ rfl rfl rfl rfl rfl))
  have hg : (w ++ r).getD 0 0 = w.getD 0 0 := by
    cases w with
    | nil => simp at h1
    | cons c q => rfl
  unfold firstV
  rw [hg, if_pos h3]
  unfold wdV
  rw [hs, take_app, if_pos hw]
/-- The digits of a number. -/
theorem dec_digits (n : Nat) : (∀ c ∈ decDigits n, dgt c = true) ∧ decDigits n ≠ [] ∧ dv 0 (decDigits n) = n ∧ (1 < (decDigits n).length → ((decDigits n).getD 0 0).toNat ≠ 48) := by
  induction n using Nat.strongRecOn with
  | ind n ih =>
    have key : ∀ k, k < 10 → (UInt8.ofNat (48 + k)).toNat = 48 + k := fun k hk => by
      rw [UInt8.toNat_ofNat']; omega
    by_cases h : n < 10
    · rw [decDigits, dif_pos h]
      refine ⟨fun c hc => ?_, by simp, ?_, fun h => by simp at h⟩
      · simp only [List.mem_singleton] at hc
        subst hc
        rw [dgt_iff, key n h]; omega
      · unfold dv
        simp only [List.foldl_cons, List.foldl_nil]
        rw [key n h]; omega
    · rw [decDigits, dif_neg h]
      obtain ⟨i1, i2, i3, i4⟩ := ih (n / 10) (by omega)
      refine ⟨fun c hc => ?_, by simp, ?_, fun _ => ?_⟩
      · rcases List.mem_append.1 hc with hc | hc
        · exact i1 c hc
        · simp only [List.mem_singleton] at hc
          subst hc
          rw [dgt_iff, key (n % 10) (by omega)]; omega
      · unfold dv at i3 ⊢
        rw [List.foldl_append, i3]
        simp only [List.foldl_cons, List.foldl_nil]
        rw [key (n % 10) (by omega)]; omega
      · cases hd : decDigits (n / 10) with
        | nil => exact absurd hd i2
        | cons c q =>
          show c.toNat ≠ 48
          rw [hd] at i1 i3 i4
          by_cases hq : q = []
          · subst hq
            intro e
            have : dv 0 [c] = n / 10 := i3
            unfold dv at this
            simp only [List.foldl_cons, List.foldl_nil] at this
            omega
          · exact i4 (by cases q with | nil => exact absurd rfl hq | cons a b => simp)
/-- A number is read. -/
theorem first_numeral (n : Int) (r : List UInt8) (hn : -17592186044416 ≤ n ∧ n ≤ 17592186044416) (hr : Sep r) : firstV (itoa n ++ r) = (⟨2, [], n, 0⟩, (itoa n).length, 0) := by
  have hout := sep_byte hr dgt rfl rfl (mark_out _ rfl rfl rfl rfl rfl)
  by_cases hneg : n < 0
  · have hi : itoa n = 45 :: decDigits n.natAbs := by unfold itoa; rw [if_pos hneg]
    obtain ⟨d1, d2, d3, d4⟩ := dec_digits n.natAbs
    rw [hi]
    generalize hD : decDigits n.natAbs = D at *
    have hg : ((45 :: D) ++ r).getD 0 0 = 45 := rfl
    have hsg : sgn ((45 :: D) ++ r) = 1 := by unfold sgn; rw [hg]; rfl
    have hsp : spn dgt (((45 :: D) ++ r).drop 1) = D.length := spn_append dgt D r d1 hout
    have hz : numSz ((45 :: D) ++ r) = (45 :: D).length := by unfold numSz; rw [hsg, hsp]; simp; omega
    have hpos : 1 ≤ D.length := by cases D with | nil => exact absurd rfl d2 | cons a b => simp
    have hlead : ¬ (((45 :: D) ++ r).getD 1 0).toNat = 48 := by
      cases D with
      | nil => exact absurd rfl d2
      | cons a b =>
        show ¬ a.toNat = 48
        by_cases hb : b = []
        · subst hb
          intro e
          have : dv 0 [a] = n.natAbs := d3
          unfold dv at this
          simp only [List.foldl_cons, List.foldl_nil] at this
          omega
        · exact d4 (by cases b with | nil => exact absurd rfl hb | cons x y => simp)
    unfold firstV
    rw [hg, if_neg (by decide), if_pos (.inr rfl)]
    unfold numV
    rw [hsg, hz, take_app, if_neg (by rintro (h | h); rw [List.length_cons] at h; omega; exact hlead h.2), show (45 :: D).drop 1 = D from rfl, d3, if_neg (by omega), if_pos rfl, show -((n.natAbs : Nat) : Int) = n by omega]
  · have hi : itoa n = decDigits n.toNat := by unfold itoa; rw [if_neg hneg]
    obtain ⟨d1, d2, d3, d4⟩ := dec_digits n.toNat
    rw [hi]
    generalize hD : decDigits n.toNat = D at *
    obtain ⟨a, b, rfl⟩ : ∃ a b, D = a :: b := by cases D with | nil => exact absurd rfl d2 | cons a b => exact ⟨a, b, rfl⟩
    have ha := d1 a (by simp)
    have ha2 := (dgt_iff a).1 ha
    have hg : ((a :: b) ++ r).getD 0 0 = a := rfl
    have hsg : sgn ((a :: b) ++ r) = 0 := by unfold sgn; rw [hg, if_neg (by omega)]
    have hsp : spn dgt (((a :: b) ++ r).drop 0) = (a :: b).length := spn_append dgt (a :: b) r d1 hout
    have hz : numSz ((a :: b) ++ r) = (a :: b).length := by unfold numSz; rw [hsg, hsp]; omega
    unfold firstV
    rw [hg, if_neg (by unfold ltr; simp; omega), if_pos (.inl ha)]
    unfold numV
    rw [hsg, hz, take_app, hg, if_neg (by rintro (h | ⟨h, h48⟩); simp at h; exact d4 h h48), List.drop_zero, d3, if_neg (by omega), if_neg (by decide), show ((n.toNat : Nat) : Int) = n by omega]
/-- An hour is read. -/
theorem inH_dgc (k : Int) (h0 : 0 ≤ k) (h1 : k ≤ 9) : inH (dgc k) = true := by
  have := dgc_nat k h0 h1
  have hd : dgt (dgc k) = true := (dgt_iff _).2 (by omega)
  unfold inH
  rw [hd]; rfl
theorem two_bytes (n : Int) (h0 : 0 ≤ n) (h1 : n ≤ 99) : ∀ c ∈ two n, inH c = true := by
  intro c hc
  unfold two at hc
  simp only [List.mem_cons, List.not_mem_nil, or_false] at hc
  rcases hc with rfl | rfl
  · exact inH_dgc _ (by omega) (by omega)
  · exact inH_dgc _ (by omega) (by omega)
theorem fmt_bytes (n : Int) (h0 : 0 ≤ n) (h1 : n ≤ 876599) : ∀ c ∈ bl (fmtT n), inH c = true := by
  obtain ⟨⟨y1, y2, m1, m2, d1, d2⟩, _⟩ := day_of n h0 h1
  have hmd := (md_bd (yr (n / 24)) (mo (n / 24))).2
  unfold fmtT
  rw [bl_tx]
  generalize yr (n / 24) = y at *
  generalize mo (n / 24) = m at *
  generalize da (n / 24) = d at *
  have hday : ∀ c ∈ dayL y m d, inH c = true := by
    intro c hc
    unfold dayL at hc
    simp only [List.mem_append, List.mem_singleton] at hc
    rcases hc with ((((hc | hc) | rfl) | hc) | rfl) | hc
    · exact two_bytes _ (by omega) (by omega) c hc
    · exact two_bytes _ (by omega) (by omega) c hc
    · rfl
    · exact two_bytes _ (by omega) (by omega) c hc
    · rfl
    · exact two_bytes _ (by omega) (by omega) c hc
  unfold fmtL
  split
  · exact hday
  · intro c hc
    simp only [List.mem_append, List.mem_singleton] at hc
    rcases hc with hc | rfl | hc
    · exact hday c hc
    · rfl
    · exact two_bytes _ (by omega) (by omega) c hc
theorem first_hourb (n : Int) (r : List UInt8) (h0 : 0 ≤ n) (h1 : n ≤ 876599) (hr : Sep r) : firstV (64 :: bl (fmtT n) ++ r) = (⟨3, [], n, 0⟩, (64 :: bl (fmtT n)).length, 0) := by
  have hout := sep_byte hr inH rfl rfl (mark_out _ rfl rfl rfl rfl rfl)
  have hsp : spn inH ((64 :: bl (fmtT n) ++ r).drop 1) = (bl (fmtT n)).length := spn_append inH _ r (fmt_bytes n h0 h1) hout
  have hz : hrSz (64 :: bl (fmtT n) ++ r) = (64 :: bl (fmtT n)).length := by unfold hrSz; rw [hsp]; simp; omega
  have hp : parseV (tx (bl (fmtT n))) = (n, 0) := by rw [tx_bl]; exact parse_fmt n h0 h1
  unfold firstV
  rw [show (64 :: bl (fmtT n) ++ r).getD 0 0 = 64 from rfl, if_neg (by decide), if_neg (by decide), if_pos (by decide)]
  unfold hrV
  rw [hz, take_app, show (64 :: bl (fmtT n)).drop 1 = bl (fmtT n) from rfl, hp, if_neg (by simp)]
/-- What a token's error being none means. -/
theorem wrE_zero (t : Tk) (h : wrE t = 0) : (t.k = 1 ∧ t.n = 0 ∧ wordB t.t = true) ∨ (t.k = 2 ∧ t.t = [] ∧ -17592186044416 ≤ t.n ∧ t.n ≤ 17592186044416) ∨ (t.k = 3 ∧ t.t = [] ∧ 0 ≤ t.n ∧ t.n ≤ 876599) ∨ (t.k = 4 ∧ t.n = 0 ∧ markB t.t = true) := by
  unfold wrE at h
  split at h
  · cases h
  · split at h
    · split at h
      · cases h
      · rename_i hk hn
        split at h
        · rename_i h1
          split at h
          · exact .inl ⟨h1, by simpa using hn, by assumption⟩
          · cases h
        · split at h
          · exact .inr (.inr (.inr ⟨by omega, by simpa using hn, by assumption⟩))
          · cases h
    · split at h
      · cases h
      · rename_i ht
        split at h
        · rename_i h3
          split at h
          · rename_i hn
            exact .inr (.inr (.inl ⟨h3, by simpa using ht, hn.1, hn.2⟩))
          · cases h
        · split at h
          · rename_i hn
            exact .inr (.inl ⟨by omega, by simpa using ht, hn.1, hn.2⟩)
          · cases h
theorem wr_name (t : Tk) (h : t.k = 1 ∨ t.k = 4) : wr t = t.t := by unfold wr; rw [if_neg (by omega), if_neg (by omega)]
theorem wr_num (t : Tk) (h : t.k = 2) : wr t = itoa t.n := by unfold wr; rw [if_pos h]
theorem wr_hour (t : Tk) (h : t.k = 3) : wr t = 64 :: bl (fmtT t.n) := by unfold wr; rw [if_neg (by omega), if_pos h]
/-- The first byte of a token's text. -/
theorem itoa_head (n : Int) : ∃ c q, itoa n = c :: q ∧ (dgt c = true ∨ c = 45) := by
  unfold itoa
  split
  · exact ⟨_, _, rfl, .inr rfl⟩
  · obtain ⟨d1, d2, _, _⟩ := dec_digits n.toNat
    cases hd : decDigits n.toNat with
    | nil => exact absurd hd d2
    | cons c q => exact ⟨c, q, rfl, .inl (d1 c (by rw [hd]; simp))⟩
theorem wr_head (t : Tk) (h : wrE t = 0) : ∃ c q, wr t = c :: q ∧ ¬ (c.toNat = 32 ∨ c.toNat = 10) ∧ ¬ c.toNat = 35 ∧ (t.k ≠ 4 → c ≠ 40) := by
  rcases wrE_zero t h with ⟨hk, hn, hw⟩ | ⟨hk, ht, hn1, hn2⟩ | ⟨hk, ht, hn1, hn2⟩ | ⟨hk, hn, hm⟩
  · rw [wr_name t (.inl hk)]
    obtain ⟨h1, h2, h3, h4, h5⟩ := of_decide_eq_true hw
    cases hd : t.t with
    | nil => rw [hd] at h1; simp at h1
    | cons c q =>
      rw [hd] at h3
      have h3' : ltr c = true := h3
      unfold ltr at h3'
      have := of_decide_eq_true h3'
      exact ⟨c, q, rfl, by omega, by omega, fun _ e => by subst e; revert this; decide⟩
  · rw [wr_num t hk]
    obtain ⟨c, q, hc, hd⟩ := itoa_head t.n
    rw [hc]
    rcases hd with hd | rfl
    · have := (dgt_iff c).1 hd
      exact ⟨c, q, rfl, by omega, by omega, fun _ e => by subst e; revert this; decide⟩
    · exact ⟨_, q, rfl, by decide, by decide, fun _ => by decide⟩
  · rw [wr_hour t hk]
    exact ⟨64, _, rfl, by decide, by decide, fun _ => by decide⟩
  · rw [wr_name t (.inr hk)]
    obtain ⟨c, hc⟩ : ∃ c, t.t = [c] := by
      rcases of_decide_eq_true hm with h | h | h | h | h <;> exact ⟨_, h⟩
    rw [hc] at hm ⊢
    exact ⟨c, [], rfl, (mark_not c hm).1, (mark_not c hm).2, fun h => absurd hk h⟩
theorem first_wr (t : Tk) (r : List UInt8) (h : wrE t = 0) (hr : t.k = 4 ∨ Sep r) : firstV (wr t ++ r) = (⟨t.k, t.t, t.n, 0⟩, (wr t).length, 0) := by
  have hs : t.k ≠ 4 → Sep r := fun e => by rcases hr with h | h; exact absurd h e; exact h
  rcases wrE_zero t h with ⟨hk, hn, hw⟩ | ⟨hk, ht, hn1, hn2⟩ | ⟨hk, ht, hn1, hn2⟩ | ⟨hk, hn, hm⟩
  · rw [wr_name t (.inl hk), first_name _ r hw (hs (by omega)), hk, hn]
  · rw [wr_num t hk, first_numeral _ r ⟨hn1, hn2⟩ (hs (by omega)), hk, ht]
  · rw [wr_hour t hk, first_hourb _ r hn1 hn2 (hs (by omega)), hk, ht]
  · rw [wr_name t (.inr hk), hk, hn]
    obtain ⟨c, hc⟩ : ∃ c, t.t = [c] := by
      rcases of_decide_eq_true hm with h | h | h | h | h <;> exact ⟨_, h⟩
    rw [hc] at hm ⊢
    exact first_markc c hm r
theorem scan_wr (t : Tk) (r : List UInt8) (at' : Nat) (acc : List Tk) (h : wrE t = 0) (hr : t.k = 4 ∨ Sep r) (ha : acc.length ≠ 4000) : scanL (wr t ++ r) at' acc = scanL r (at' + (wr t).length) (acc ++ [⟨t.k, t.t, t.n, (at' : Int)⟩]) := by
  have hf := first_wr t r h hr
  obtain ⟨c, q, hc, h1, h2, _⟩ := wr_head t h
  have hst : ¬ (t.k = 2 ∧ stp r = true) := fun e => by
    rcases hr with h4 | hr
    · omega
    · rw [sep_stp hr] at e; cases e.2
  rw [scanL_step _ _ _ (by rw [hc]; simp), show (wr t ++ r).getD 0 0 = c by rw [hc]; rfl, if_neg h1, if_neg h2, hf, if_neg (by simp), if_neg ha, drop_app, if_neg hst]
/-- The same tokens, apart from where they stand. -/
def Same (A B : List Tk) : Prop := A.map (fun t => (t.k, t.t, t.n)) = B.map (fun t => (t.k, t.t, t.n))
theorem gap_sep (last : List UInt8) (L : List Tk) (hl : last ≠ [40]) (hv : ∀ t ∈ L, wrE t = 0) : Sep (joinT last L) := by
  cases L with
  | nil => exact .inl rfl
  | cons t L =>
    right
    show ∃ c q, gap last (wr t) ++ (wr t ++ joinT (wr t) L) = c :: q ∧ _
    unfold gap
    by_cases hg : wr t = [40] ∨ markB (wr t) = false
    · rw [if_pos ⟨hl, hg⟩]
      exact ⟨32, _, rfl, .inl rfl⟩
    · rw [if_neg (fun e => hg e.2)]
      have hm : markB (wr t) = true := by
        cases h : markB (wr t) with
        | true => rfl
        | false => exact absurd (.inr h) hg
      obtain ⟨c, hc⟩ : ∃ c, wr t = [c] := by
        rcases of_decide_eq_true hm with h | h | h | h | h <;> exact ⟨_, h⟩
      rw [hc] at hm
      exact ⟨c, _, by rw [hc]; rfl, .inr (.inr hm)⟩
theorem scan_join : ∀ (L : List Tk) (last : List UInt8) (at' : Nat) (acc : List Tk), (∀ t ∈ L, wrE t = 0) → acc.length + L.length ≤ 4000 → ∃ M, Same M L ∧ scanL (joinT last L) at' acc = (acc ++ M, 0, 0) := by
  intro L
  induction L with
  | nil => intro last at' acc _ _; exact ⟨[], rfl, by rw [List.append_nil]; rfl⟩
  | cons t L ih =>
    intro last at' acc hv hlen
    rw [List.length_cons] at hlen
    have ht := hv t (by simp)
    have hL : ∀ x ∈ L, wrE x = 0 := fun x hx => hv x (by simp [hx])
    have hsep : t.k = 4 ∨ Sep (joinT (wr t) L) := by
      by_cases h4 : t.k = 4
      · exact .inl h4
      · right
        refine gap_sep _ _ ?_ hL
        obtain ⟨c, q, hc, _, _, h40⟩ := wr_head t ht
        rw [hc]
        intro e
        exact h40 h4 (by injection e)
    have key : ∀ a : Nat, ∃ M, Same M (t :: L) ∧ scanL (wr t ++ joinT (wr t) L) a acc = (acc ++ M, 0, 0) := by
      intro a
      obtain ⟨M, hM, he⟩ := ih (wr t) (a + (wr t).length) (acc ++ [⟨t.k, t.t, t.n, (a : Int)⟩]) hL (by simp; omega)
      refine ⟨⟨t.k, t.t, t.n, (a : Int)⟩ :: M, ?_, ?_⟩
      · show _ :: _ = _ :: _
        rw [show M.map _ = L.map _ from hM]
      · rw [scan_wr t _ a acc ht hsep (by omega), he, List.append_assoc]
        rfl
    show ∃ M, _ ∧ scanL (gap last (wr t) ++ (wr t ++ joinT (wr t) L)) at' acc = _
    unfold gap
    split
    · rw [List.singleton_append, scan_sp 32 (by decide)]
      exact key _
    · rw [List.nil_append]
      exact key _
theorem back_all (L : List Tk) (hv : ∀ t ∈ L, wrE t = 0) (h4 : L.length ≤ 4000) (h16 : (joinT [40] L).length ≤ 16384) : joinV L = (joinT [40] L, 0) ∧ ∃ M, Same M L ∧ scanV (joinT [40] L) = (M, 0, 0) := by
  have hE : joinE L = 0 := joinE_all L (fun j hj => by rw [tk_at L j hj]; exact hv _ (List.getElem_mem _))
  constructor
  · unfold joinV
    rw [if_neg (by omega), hE, if_neg (by simp), if_neg (by omega)]
  · obtain ⟨M, hM, he⟩ := scan_join L [40] 0 [] hv (by simpa using h4)
    refine ⟨M, hM, ?_⟩
    unfold scanV
    rw [if_neg (by omega), he]
    rfl
theorem joinT_len (L : List Tk) (hv : ∀ t ∈ L, wrE t = 0) : ∀ last, (joinT last L).length ≤ 22 * L.length := by
  induction L with
  | nil => intro last; simp [joinT]
  | cons t L ih =>
    intro last
    have h1 := gap_len last (wr t)
    have h2 := wr_len t (hv t (by simp))
    have h3 := ih (fun x hx => hv x (by simp [hx])) (wr t)
    show (gap last (wr t) ++ (wr t ++ joinT (wr t) L)).length ≤ _
    rw [List.length_append, List.length_append, List.length_cons]
    omega
end Go.Proofs.YtjmipikahaoblaaGreatDoor.Lx
namespace Go.Proofs.YtjmipikahaoblaaGreatDoor.Syn
open Go.RowKit Go.Lib Go.Proofs.YtjmipikahaoblaaGreatDoor.Bas Go.Proofs.YtjmipikahaoblaaGreatDoor.Cal Go.Proofs.YtjmipikahaoblaaGreatDoor.Lx Go.Proofs.YtjmipikahaoblaaGreatDoor.Sc
set_option linter.unusedVariables false

def tkOf (t : Tok) : Tk := ⟨t.k, t.t, t.n, 0⟩
def tksOf (X : List Tok) : List Tk := X.map tkOf
theorem toks_of (X : List Tok) : toks (tksOf X) = X := by
  unfold toks tksOf
  rw [List.map_map]
  induction X with
  | nil => rfl
  | cons t r ih => rw [List.map_cons, ih]; rfl
theorem toks_same {M : List Tk} {X : List Tok} (h : Lx.Same M (tksOf X)) : toks M = X := by
  have h1 : (M.map fun t => (t.k, t.t, t.n)).map (fun q => (⟨q.1, q.2.1, q.2.2⟩ : Tok)) = ((tksOf X).map fun t => (t.k, t.t, t.n)).map (fun q => (⟨q.1, q.2.1, q.2.2⟩ : Tok)) := by rw [show M.map _ = (tksOf X).map _ from h]
  rw [List.map_map, List.map_map] at h1
  have h2 : toks M = toks (tksOf X) := h1
  rw [h2, toks_of]
/-- The text of tokens behind the text of another one. -/
def txt (last : List UInt8) (X : List Tok) : List UInt8 := joinT last (tksOf X)
def lstW (last : List UInt8) : List Tok → List UInt8
  | [] => last
  | t :: r => lstW (wr (tkOf t)) r
theorem txt_nil (last : List UInt8) : txt last [] = [] := rfl
theorem txt_cons (last : List UInt8) (t : Tok) (X : List Tok) : txt last (t :: X) = gap last (wr (tkOf t)) ++ (wr (tkOf t) ++ txt (wr (tkOf t)) X) := rfl
theorem txt_app (X Y : List Tok) : ∀ last, txt last (X ++ Y) = txt last X ++ txt (lstW last X) Y := by
  induction X with
  | nil => intro last; rfl
  | cons t r ih =>
    intro last
    rw [List.cons_append, txt_cons, txt_cons, ih, lstW]
    simp only [List.append_assoc]
/-- How many bytes tokens have at most. -/
def wt : List Tok → Nat
  | [] => 0
  | t :: r => (1 + (wr (tkOf t)).length) + wt r
theorem wt_app (X Y : List Tok) : wt (X ++ Y) = wt X + wt Y := by
  induction X with
  | nil => rw [List.nil_append, wt]; omega
  | cons t r ih => rw [List.cons_append, wt, wt, ih]; omega
theorem txt_le (X : List Tok) : ∀ last, (txt last X).length ≤ wt X := by
  induction X with
  | nil => intro last; exact Nat.le_refl _
  | cons t r ih =>
    intro last
    have h1 := gap_len last (wr (tkOf t))
    have h2 := ih (wr (tkOf t))
    rw [txt_cons, List.length_append, List.length_append, wt]
    omega
/-- All of these tokens can be written. -/
def OkT (X : List Tok) : Prop := ∀ t ∈ X, wrE (tkOf t) = 0
theorem OkT.app {X Y : List Tok} (h : OkT X) (k : OkT Y) : OkT (X ++ Y) := fun t ht => by
  rcases List.mem_append.1 ht with e | e
  · exact h t e
  · exact k t e
theorem OkT.cons {t : Tok} {X : List Tok} (h : wrE (tkOf t) = 0) (k : OkT X) : OkT (t :: X) := fun x hx => by
  rcases List.mem_cons.1 hx with e | e
  · rw [e]; exact h
  · exact k x e
theorem okT_nil : OkT [] := fun t ht => by cases ht
theorem OkT.tks {X : List Tok} (h : OkT X) : ∀ t ∈ tksOf X, wrE t = 0 := fun t ht => by
  obtain ⟨x, hx, rfl⟩ := List.mem_map.1 ht
  exact h x hx
theorem word_ok {s : List UInt8} (h : wordB s = true) : wrE (tkOf (nmT s)) = 0 := by
  show wrE ⟨1, s, 0, 0⟩ = 0
  unfold wrE
  simp [h]
theorem nameB_word {s : List UInt8} (h : nameB s = true) : wordB s = true := by
  unfold nameB at h
  rw [Bool.and_eq_true] at h
  exact h.1
theorem mark_ok {s : List UInt8} (h : markB s = true) : wrE (tkOf (mkT s)) = 0 := by
  show wrE ⟨4, s, 0, 0⟩ = 0
  unfold wrE
  simp [h]
theorem num_ok {n : Int} (h : -17592186044416 ≤ n ∧ n ≤ 17592186044416) : wrE (tkOf (noT n)) = 0 := by
  show wrE ⟨2, [], n, 0⟩ = 0
  unfold wrE
  simp [h]
theorem name_len {s : List UInt8} (h : nameB s = true) : s.length ≤ 16 := (of_decide_eq_true (nameB_word h)).2.1
theorem far_bd {n : Int} (h : farB n = false) : -1000000000 ≤ n ∧ n ≤ 1000000000 := by
  unfold farB at h
  rw [Bool.or_eq_false_iff] at h
  have h1 := of_decide_eq_false h.1
  have h2 := of_decide_eq_false h.2
  omega
theorem list_ok : ∀ (l : List (List UInt8)) (first : Bool), (∀ x ∈ l, nameB x = true) → OkT (listT first l)
  | [], _, _ => by intro t ht; simp [listT] at ht
  | s :: r, first, h => by
    rw [listT]
    refine OkT.app ?_ (OkT.cons (word_ok (nameB_word (h s (by simp)))) (list_ok r false fun x hx => h x (by simp [hx])))
    cases first
    · exact OkT.cons (mark_ok (by decide)) okT_nil
    · exact okT_nil
theorem leaf_ok (d : Nd) (n : Nat) (hd : nodeB d n = true) (h1 : 1 ≤ d.op) (h5 : d.op ≤ 5) : OkT (leafT d) := by
  unfold nodeB at hd
  simp only [Bool.and_eq_true] at hd
  obtain ⟨⟨⟨⟨_, hn⟩, hw⟩, hl⟩, _⟩ := hd
  unfold leafT
  split
  · exact OkT.cons (word_ok (by decide)) okT_nil
  · split
    · exact OkT.cons (word_ok (by decide)) okT_nil
    · have h35 : d.op = 3 ∨ d.op = 4 ∨ d.op = 5 := by omega
      rw [if_pos h35] at hn
      have hnm := word_ok (nameB_word hn)
      split
      · exact OkT.cons hnm okT_nil
      · split
        · rename_i h4
          rw [if_pos h4] at hw
          simp only [Bool.and_eq_true] at hw
          refine OkT.app (OkT.app (OkT.cons hnm (OkT.cons (word_ok (by decide)) (OkT.cons (mark_ok (by decide)) okT_nil))) (list_ok d.ws true (names_all _ hw.1.2))) (OkT.cons (mark_ok (by decide)) okT_nil)
        · rename_i h3 h4
          rw [if_pos (by omega)] at hl
          simp only [Bool.and_eq_true, Bool.not_eq_true'] at hl
          have b1 := far_bd hl.1.1
          have b2 := far_bd hl.1.2
          exact OkT.cons hnm (OkT.cons (word_ok (by decide)) (OkT.cons (num_ok (by omega)) (OkT.cons (word_ok (by decide)) (OkT.cons (num_ok (by omega)) okT_nil))))
theorem node_ok (d : Nd) (n : Nat) (x : List Tok) (hd : nodeB d n = true) (hx : OkT x) : OkT (nodeT d x) := by
  unfold nodeT
  split
  · rename_i h
    exact leaf_ok d n hd h.1 h.2
  · refine OkT.app ?_ hx
    split
    · exact OkT.cons (word_ok (by decide)) okT_nil
    · exact okT_nil
theorem args_ok : ∀ (F : Fo) (op : Int) (first : Bool), nodesB F = true → OkT (argsT op first F)
  | .nil, _, _, _ => by intro t ht; simp [argsT] at ht
  | .cons d k r, op, first, h => by
    rw [nodesB, Bool.and_eq_true, Bool.and_eq_true] at h
    have hk := node_ok d k.len (argsT d.op true k) h.1.1 (args_ok k d.op true h.1.2)
    rw [argsT]
    refine OkT.app ?_ (OkT.app ?_ (args_ok r op false h.2))
    · cases first
      · refine OkT.cons (word_ok ?_) okT_nil
        unfold wordOf
        split <;> decide
      · exact okT_nil
    · split
      · exact OkT.app (OkT.cons (mark_ok (by decide)) hk) (OkT.cons (mark_ok (by decide)) okT_nil)
      · exact hk
theorem ex_ok (e : Ex) (h : exB e = true) : OkT (exT e) := by
  unfold exB at h
  rw [Bool.and_eq_true] at h
  exact node_ok e.d e.kids.len _ h.1 (args_ok e.kids e.d.op true h.2)
/-- What Format is specified to return. -/
def fmtV (e : Ex) : List UInt8 × Int := if validB e = true then joinV (tksOf (exT e)) else ([], 5)
theorem join_ok (X : List Tok) (h : OkT X) (h4 : X.length ≤ 4000) (hw : wt X ≤ 16384) : joinV (tksOf X) = (txt [40] X, 0) ∧ ∃ M, toks M = X ∧ scanV (txt [40] X) = (M, 0, 0) := by
  have hl := txt_le X [40]
  obtain ⟨h1, M, h2, h3⟩ := back_all (tksOf X) h.tks (by unfold tksOf; rw [List.length_map]; exact h4) (by show (txt [40] X).length ≤ _; omega)
  exact ⟨h1, M, toks_same h2, h3⟩
theorem not_end (L : List Tok) (w : List UInt8) : Not L w L.length := fun b => by
  unfold isB
  exact decide_eq_false (fun h => Nat.lt_irrefl _ h.1)
theorem has_self (X : List Tok) : Has X 0 X := fun j hj => ⟨by omega, by rw [Nat.zero_add]; rfl⟩
/-- What Parse returns for the text of tokens that are an expression. -/
theorem read_txt (X : List Tok) (e : Ex) (hW : Whole X e) (hok : OkT X) (h4 : X.length ≤ 4000) (hw : wt X ≤ 16384) :
    (e.size ≤ 300 ∧ e.depth ≤ 16 → exprV (txt [40] X) = (e, 0, 0)) ∧ (300 < e.size → (exprV (txt [40] X)).2.2 = 4) := by
  obtain ⟨_, M, hM, hs⟩ := join_ok X hok h4 hw
  have hMl : M.length = X.length := by rw [← hM, toks_len]
  have hE : eitherR X (rs 0) = (⟨X.length, 0, 0⟩, e) := by
    have := hW X 0 0 (has_self X) (by rw [Nat.zero_add]; exact ⟨⟨⟨not_end X _, not_end X _⟩, not_end X _⟩, not_end X _⟩)
    rw [Nat.zero_add] at this
    exact this
  obtain ⟨t1, t2, t3⟩ := tokensV_in X 0 (Nat.zero_le _)
  rw [hE] at t1 t2 t3
  constructor
  · intro hb
    have ht := t3 rfl (by show ¬ (300 < e.size ∨ 16 < e.depth); omega)
    unfold exprV
    rw [hs]
    simp only []
    rw [hM, show ((0 : Int)) = ((0 : Nat) : Int) from rfl, ht]
    simp [hMl]
  · intro hb
    have ht := t2 rfl (.inl hb)
    unfold exprV
    rw [hs]
    simp only []
    rw [hM, show ((0 : Int)) = ((0 : Nat) : Int) from rfl, ht]
    simp
    split <;> rfl
theorem nDigits_le : ∀ (k u : Nat), u < 10 ^ (k + 1) → nDigits u ≤ k + 1
  | 0, u, h => by rw [nDigits_small (by simpa using h)]; omega
  | k + 1, u, h => by
    by_cases h1 : u < 10
    · rw [nDigits_small h1]; omega
    · rw [nDigits_big h1]
      have := nDigits_le k (u / 10) (by rw [Nat.pow_succ] at h; omega)
      omega
theorem itoa_short (n : Int) (h : -1000000000 ≤ n ∧ n ≤ 1000000000) : (itoa n).length ≤ 11 := by
  by_cases hneg : n < 0
  · obtain ⟨u, rfl⟩ : ∃ u : Nat, n = -(u : Int) := ⟨n.natAbs, by omega⟩
    rw [itoa_neg u (by omega), List.length_cons, decDigits_length]
    have := nDigits_le 9 u (by omega)
    omega
  · obtain ⟨u, rfl⟩ : ∃ u : Nat, n = u := ⟨n.toNat, by omega⟩
    rw [itoa_nonneg, decDigits_length]
    have := nDigits_le 9 u (by omega)
    omega
theorem wt_nm (s : List UInt8) : wt [nmT s] = 1 + s.length := rfl
theorem wt_cons (t : Tok) (X : List Tok) : wt (t :: X) = (1 + (wr (tkOf t)).length) + wt X := rfl
theorem wr_nm (s : List UInt8) : wr (tkOf (nmT s)) = s := rfl
theorem wr_mk (s : List UInt8) : wr (tkOf (mkT s)) = s := rfl
theorem wr_no (n : Int) : wr (tkOf (noT n)) = itoa n := rfl
/-- Bounds of an expression that is made of a depth: nodes, tokens, bytes. -/
def szB : Nat → Nat
  | 0 => 0
  | n + 1 => 3 * szB n + 1
def tlB : Nat → Nat
  | 0 => 1
  | n + 1 => 3 * tlB n + 8
def wtB : Nat → Nat
  | 0 => 9
  | n + 1 => 3 * wtB n + 21
structure MadeB (n : Nat) (e : Ex) : Prop where
  ok : exB e = true
  dp : e.depth ≤ n
  sz : e.size ≤ szB n
  tl : (exT e).length ≤ tlB n
  wt : wt (exT e) ≤ wtB n
theorem MadeB.succ {n : Nat} {e : Ex} (h : MadeB n e) : MadeB (n + 1) e := by
  obtain ⟨h1, h2, h3, h4, h5⟩ := h
  exact ⟨h1, by omega, by rw [szB]; omega, by rw [tlB]; omega, by rw [wtB]; omega⟩
theorem MadeB.up {n m : Nat} {e : Ex} (h : MadeB n e) (hm : n ≤ m) : MadeB m e := by
  obtain ⟨k, rfl⟩ : ∃ k, m = n + k := ⟨m - n, by omega⟩
  clear hm
  induction k with
  | zero => exact h
  | succ k ih => exact ih.succ
theorem MadeB.valid {e : Ex} (h : MadeB 5 e) : validB e = true := by
  have h1 := h.dp
  have h2 := h.sz
  have h3 : szB 5 = 121 := by decide
  unfold validB
  rw [h.ok]
  simp
  omega
theorem list_len : ∀ (l : List (List UInt8)), (listT true l).length ≤ 2 * l.length ∧ (listT false l).length = 2 * l.length
  | [] => by simp [listT]
  | s :: r => by
    have := (list_len r).2
    simp [listT, this]
    omega
theorem list_wt : ∀ (l : List (List UInt8)), (∀ x ∈ l, x.length ≤ 5) → wt (listT true l) ≤ 8 * l.length ∧ wt (listT false l) ≤ 8 * l.length
  | [], _ => by simp [listT, wt]
  | s :: r, h => by
    have h1 := (list_wt r fun x hx => h x (by simp [hx])).2
    have h2 := h s (by simp)
    have e1 : wt (listT true (s :: r)) = (1 + s.length) + wt (listT false r) := rfl
    have e2 : wt (listT false (s :: r)) = (1 + 1) + ((1 + s.length) + wt (listT false r)) := rfl
    rw [e1, e2, List.length_cons]
    omega
theorem list_wt1 (l : List (List UInt8)) (h : ∀ x ∈ l, x.length ≤ 5) (h1 : 1 ≤ l.length) : wt (listT true l) + 2 ≤ 8 * l.length := by
  cases l with
  | nil => simp at h1
  | cons s r =>
    have h2 := (list_wt r fun x hx => h x (by simp [hx])).2
    have h3 := h s (by simp)
    have e1 : wt (listT true (s :: r)) = (1 + s.length) + wt (listT false r) := rfl
    rw [e1, List.length_cons]
    omega
theorem list_len1 (l : List (List UInt8)) (h1 : 1 ≤ l.length) : (listT true l).length + 1 = 2 * l.length := by
  cases l with
  | nil => simp at h1
  | cons s r =>
    have := (list_len r).2
    simp [listT, this]
    omega
/-- Arguments that are made of a depth. -/
theorem args_bd (op : Int) (n : Nat) : ∀ (l : List Ex), (∀ e ∈ l, MadeB n e) → nodesB (Fo.ofL l) = true ∧ (Fo.ofL l).deep ≤ n ∧ (Fo.ofL l).sizes ≤ l.length * szB n ∧ (argsT op false (Fo.ofL l)).length ≤ l.length * (tlB n + 3) ∧ wt (argsT op false (Fo.ofL l)) ≤ l.length * (wtB n + 8)
  | [], _ => ⟨rfl, Nat.zero_le _, Nat.zero_le _, Nat.zero_le _, Nat.zero_le _⟩
  | e :: r, h => by
    obtain ⟨i1, i2, i3, i4, i5⟩ := args_bd op n r fun x hx => h x (by simp [hx])
    obtain ⟨h1, h2, h3, h4, h5⟩ := h e (by simp)
    have hx : exT e = nodeT e.d (argsT e.d.op true e.kids) := rfl
    have ha : (argT op e.d e.kids).length ≤ (exT e).length + 2 ∧ wt (argT op e.d e.kids) ≤ wt (exT e) + 4 := by
      unfold argT
      rw [← hx]
      split
      · constructor
        · simp
        · rw [wt_app, wt_cons, wr_mk]
          show 1 + 1 + _ + (1 + 1 + 0) ≤ _
          omega
      · omega
    have hwo : (wordOf op).length ≤ 3 := by unfold wordOf; split <;> decide
    rw [Fo.ofL]
    refine ⟨?_, ?_, ?_, ?_, ?_⟩
    · rw [nodesB]
      unfold exB at h1
      rw [h1, i1]; rfl
    · rw [Fo.deep]
      have : 1 + e.kids.deep ≤ n := h2
      omega
    · rw [Fo.sizes, List.length_cons, Nat.add_mul]
      have : 1 + e.kids.sizes ≤ szB n := h3
      omega
    · rw [argsT_false, List.length_cons, List.length_append, List.length_cons, Nat.add_mul]
      omega
    · rw [argsT_false, wt_cons, wr_nm, wt_app, List.length_cons, Nat.add_mul]
      omega
theorem args_true (op : Int) (F : Fo) (h : 1 ≤ F.len) : argsT op false F = nmT (wordOf op) :: argsT op true F := by
  cases F with
  | nil => rw [Fo.len] at h; omega
  | cons d k r => rw [argsT_false, argsT_true]
/-- An operator over expressions that are made of a depth. -/
theorem made_op (op : Int) (n : Nat) (l : List Ex) (h : ∀ e ∈ l, MadeB n e) (ho : op = 6 ∧ l.length = 1 ∨ (op = 7 ∨ op = 8) ∧ (l.length = 2 ∨ l.length = 3)) : MadeB (n + 1) ⟨⟨op, [], [], 0, 0⟩, Fo.ofL l⟩ := by
  obtain ⟨i1, i2, i3, i4, i5⟩ := args_bd op n l h
  have hlen : (Fo.ofL l).len = l.length := by rw [← Fo.toL_length, Fo.toL_ofL]
  have ht := args_true op (Fo.ofL l) (by omega)
  rw [ht] at i4 i5
  rw [List.length_cons] at i4
  rw [wt_cons, wr_nm] at i5
  have hx : exT ⟨⟨op, [], [], 0, 0⟩, Fo.ofL l⟩ = (if op = 6 then [nmT wNot] else []) ++ argsT op true (Fo.ofL l) := by
    show nodeT _ _ = _
    unfold nodeT
    rw [if_neg (by show ¬ (1 ≤ op ∧ op ≤ 5); omega)]
  have hn6 : op = 6 → (wordOf op).length = 2 := fun e => by rw [e]; rfl
  refine ⟨?_, ?_, ?_, ?_, ?_⟩
  · unfold exB
    rw [i1]
    unfold nodeB
    rcases ho with ⟨rfl, h1⟩ | ⟨rfl | rfl, h1⟩ <;> simp [hlen] <;> omega
  · show 1 + (Fo.ofL l).deep ≤ _
    omega
  · show 1 + (Fo.ofL l).sizes ≤ _
    rw [szB]
    rcases ho with ⟨rfl, h1⟩ | ⟨_, h1 | h1⟩ <;> rw [h1] at i3 <;> omega
  · rw [hx, List.length_append, tlB]
    rcases ho with ⟨rfl, h1⟩ | ⟨h0, h1 | h1⟩ <;> rw [h1] at i4
    · rw [if_pos rfl, List.length_singleton]; omega
    · rw [if_neg (by omega), List.length_nil]; omega
    · rw [if_neg (by omega), List.length_nil]; omega
  · rw [hx, wt_app, wtB]
    have hw2 : 2 ≤ (wordOf op).length := by unfold wordOf; split <;> decide
    rcases ho with ⟨rfl, h1⟩ | ⟨h0, h1 | h1⟩ <;> rw [h1] at i5
    · rw [if_pos rfl, wt_nm, show wNot.length = 3 from rfl]
      have := hn6 rfl
      omega
    · rw [if_neg (by omega), wt]; omega
    · rw [if_neg (by omega), wt]; omega
/-- .. and an expression without arguments. -/
theorem made_leaf (d : Nd) (hd : nodeB d 0 = true) (h1 : 1 ≤ d.op) (h5 : d.op ≤ 5) (hn : d.nm.length ≤ 7) (hw : d.ws.length ≤ 4) (hl : ∀ x ∈ d.ws, x.length ≤ 5) : MadeB 1 ⟨d, .nil⟩ := by
  have hx : exT ⟨d, .nil⟩ = leafT d := by
    show nodeT _ _ = _
    unfold nodeT
    rw [if_pos ⟨h1, h5⟩]
  have hd' := hd
  unfold nodeB at hd'
  simp only [Bool.and_eq_true] at hd'
  obtain ⟨⟨⟨⟨_, _⟩, hws⟩, hlo⟩, _⟩ := hd'
  refine ⟨?_, Nat.le_refl _, Nat.le_refl _, ?_, ?_⟩
  · unfold exB
    rw [show nodeB d (Fo.nil).len = true from hd]; rfl
  · rw [hx, show tlB 1 = 11 from rfl]
    unfold leafT
    split
    · decide
    · split
      · simp
      · split
        · simp
        · split
          · have := (list_len d.ws).1
            have h4 : d.op = 4 := by assumption
            rw [if_pos h4] at hws
            simp only [Bool.and_eq_true, decide_eq_true_eq] at hws
            have := list_len1 d.ws hws.1.1.1
            simp only [List.length_append, List.length_cons, List.length_nil]
            omega
          · simp
  · rw [hx, show wtB 1 = 48 from rfl]
    unfold leafT
    split
    · decide
    · split
      · decide
      · split
        · rw [wt_nm]; omega
        · split
          · have h4 : d.op = 4 := by assumption
            rw [if_pos h4] at hws
            simp only [Bool.and_eq_true, decide_eq_true_eq] at hws
            have := list_wt1 d.ws hl hws.1.1.1
            rw [wt_app, wt_app, wt_cons, wt_cons, wt_cons, wt_cons, wr_nm, wr_nm, wr_mk, wr_mk, show wIn.length = 2 from rfl, wt]
            simp only [List.length_cons, List.length_nil]
            omega
          · rename_i h3 h4
            rw [if_pos (by omega)] at hlo
            simp only [Bool.and_eq_true, Bool.not_eq_true'] at hlo
            have b1 := itoa_short d.lo (far_bd hlo.1.1)
            have b2 := itoa_short d.hi (far_bd hlo.1.2)
            rw [wt_cons, wt_cons, wt_cons, wt_cons, wt_cons, wr_nm, wr_nm, wr_nm, wr_no, wr_no, show wFrom.length = 4 from rfl, show wTo.length = 2 from rfl, wt]
            omega
theorem args_take (op : Int) : ∀ (F : Fo) (first : Bool) (k : Nat), k < F.len → argsT op first (F.take (k + 1)) = argsT op first (F.take k) ++ ((if first = true ∧ k = 0 then [] else [nmT (wordOf op)]) ++ argT op (F.get k).d (F.get k).kids)
  | .nil, _, _, hk => by rw [Fo.len] at hk; omega
  | .cons d kk r, first, 0, _ => by
    rw [Fo.get_zero]
    show argsT op first (.cons d kk (r.take 0)) = argsT op first .nil ++ _
    rw [show r.take 0 = Fo.nil from rfl, argsT, argsT]
    cases first <;> simp [argT, argsT]
  | .cons d kk r, first, k + 1, hk => by
    rw [Fo.get_succ]
    rw [Fo.len] at hk
    show argsT op first (.cons d kk (r.take (k + 1))) = argsT op first (.cons d kk (r.take k)) ++ _
    rw [argsT, argsT, args_take op r false k (by omega)]
    simp
theorem list_take : ∀ (l : List (List UInt8)) (first : Bool) (k : Nat), k < l.length → listT first (l.take (k + 1)) = listT first (l.take k) ++ ((if first = true ∧ k = 0 then [] else [mkT [44]]) ++ [nmT (l.getD k [])])
  | [], _, _, hk => by simp at hk
  | s :: r, first, 0, _ => by cases first <;> simp [listT]
  | s :: r, first, k + 1, hk => by
    rw [List.take_succ_cons, List.take_succ_cons, listT, listT, list_take r false k (by simpa using hk)]
    simp
theorem made_bounds : szB 5 = 121 ∧ tlB 5 ≤ 1300 ∧ wtB 5 ≤ 4728 := by decide
end Go.Proofs.YtjmipikahaoblaaGreatDoor.Syn
namespace Go.Proofs.YtjmipikahaoblaaGreatDoor.Syn
open Go.RowKit Go.Lib Go.Proofs.YtjmipikahaoblaaGreatDoor.Bas Go.Proofs.YtjmipikahaoblaaGreatDoor.Cal Go.Proofs.YtjmipikahaoblaaGreatDoor.Lx Go.Proofs.YtjmipikahaoblaaGreatDoor.Sc Go.Proofs.YtjmipikahaoblaaGreatDoor.Dk
set_option linter.unusedVariables false

theorem six_one1 (d : Nd) (k : Fo) (q1 q2 : Option Addr) (n1 c1 n2 c2 : Nat) : ∀ u ∈ fl6 [((⟨d, k⟩, .slice q1 n1 c1, .slice q2 n2 c2) : Px)], u.oneCell' = true := by
  intro u hu
  simp only [fl6, List.flatMap_cons, List.flatMap_nil, List.append_nil, six, List.mem_cons, List.not_mem_nil, or_false] at hu
  rcases hu with rfl | rfl | rfl | rfl | rfl | rfl <;> rfl
/-- A list of expressions M that lies at (g, o). -/
def ListAt (w : World) (g o : Nat) (M : List Px) : Prop := ∀ j u, (fl6 M)[j]? = some u → w.cell? ⟨g, o + j, none⟩ = some u
theorem ListAt.block {w w' : World} {g o : Nat} {M : List Px} (h : ListAt w g o M) (e : g < w.heap.size → w'.heap[g]? = w.heap[g]?) : ListAt w' g o M := fun j u hu => cell_same (h j u hu) e
theorem listAt_new (w : World) (p : Px) (t : TypeId) : ListAt (w.alloc (.cells #[.int .i64 p.1.d.op, .string (tx p.1.d.nm), p.2.1, .int .i64 p.1.d.lo, .int .i64 p.1.d.hi, p.2.2] t)) w.heap.size 0 [p] := one_cells w p t
theorem erow_drew {B : Nat} {w : World} {v : Value} {P : List Px} (h : ERow B w v P) : ERow B w.drew v P := h
theorem erow_al {B : Nat} {w : World} {v : Value} {P : List Px} {o : Obj} (h : ERow B w v P) : ERow B (w.alloc o) v P := own_al h
theorem listAt_al {w : World} {g o : Nat} {M : List Px} {ob : Obj} (h : ListAt w g o M) : ListAt (w.alloc ob) g o M := h.block fun hl => (alloc_at w ob).block g hl
theorem xf_al {w : World} {b : Nat} {d : Nd} {u a : Value} {o : Obj} (h : XF w b d u a) : XF (w.alloc o) b d u a := h.keep (alloc_at w o)
theorem listAt_newg (w : World) (p : Px) (t : TypeId) (g : Nat) (hg : w.heap.size = g) : ListAt (w.alloc (.cells #[.int .i64 p.1.d.op, .string (tx p.1.d.nm), p.2.1, .int .i64 p.1.d.lo, .int .i64 p.1.d.hi, p.2.2] t)) g 0 [p] := hg ▸ listAt_new w p t
theorem erow_litg (B : Nat) (w : World) (g : Nat) (hB : B ≤ w.heap.size) (hg : w.heap.size = g) : ERow B (w.alloc (.cells #[] 25)) (.slice (some ⟨g, 0, none⟩) 0 0) [] := hg ▸ erow_lit B w [] hB (by decide)
theorem listAt_drew {w : World} {g o : Nat} {M : List Px} (h : ListAt w g o M) : ListAt w.drew g o M := h
theorem xf_drew {w : World} {b : Nat} {d : Nd} {u a : Value} (h : XF w b d u a) : XF w.drew b d u a := ⟨h.at_, h.f0, h.f1, h.f2, h.f3, h.f4, h.f5⟩
/-- append of a list that lies in memory onto a row of the call's own. -/
theorem step_append_ex {w : World} {ops : Array Oper} {o : Oper} {a : Act} {K : Act → World → Prop} {Q : Exit → Act → World → Prop} {E : Prop} (hgd : o.guard = none) (s x : Operand)
    (ho : o.op = .call { callee := .builtin .append, args := #[s, x], argTypes := #[23, 23] })
    (B : Nat) (v : Value) (P : List Px) (hs : a.eval s = v) (hrow : ERow B w v P) (g off m c : Nat) (M : List Px) (hx : a.eval x = .slice (some ⟨g, off, none⟩) m c) (hm : M.length = m) (hM : ListAt w g off M) (h1 : ∀ u ∈ fl6 M, u.oneCell' = true) (h0 : 0 < m)
    (r : Nat) (hr : P.length + m = r) (hlen : r ≤ 1000000) (hB : B ≤ w.heap.size)
    (h : ∀ g' c' w', ERow B w' (.slice (some ⟨g', 0, none⟩) r c') (P ++ M) → w.grownBy w' v.ownBlock → (v.ownBlock = some g' ∨ w.heap.size ≤ g') → (∀ g, v.ownBlock = some g → B ≤ g) → K (a.put o.dst (.slice (some ⟨g', 0, none⟩) r c')) w') : if Region.wanted o (yielded ops a.tmps) = true then Oper.wp Tryz.prog o a w K Q else E := by
  subst hr
  obtain ⟨i, z, hi, hz, hsz, hzs, hby⟩ := info_ex
  refine step_append_lies w hgd s x 23 ho B 25 i z 6 88 Tryz.underlying23 hi hz hsz hby hzs (by decide) v P.length (fl6 P) hs hrow ⟨g, off, none⟩ m c (fl6 M) hx (by rw [fl6_length, hm]) ?_ h1 h0 (by unfold maxLen; omega) (by omega) hB w.heap.size rfl ?_
  · intro j u hu
    rw [Go.WideShapes.add_plain]
    exact hM j u hu
  · intro g' cap w' hown hg hat _
    refine h g' cap w' ?_ hg (by rcases hat with e | e; exact .inl e; exact .inr (Nat.le_of_eq e.symm)) (fun g hg => (hrow.block g hg).1)
    unfold ERow
    rw [fl6_append, List.length_append, hm]
    exact hown
theorem xf_zero (w : World) : XF (w.alloc (.cells #[.int .i64 0, .string { data := #[] }, .slice none 0 0, .int .i64 0, .int .i64 0, .slice none 0 0] 25)) w.heap.size n0 (.slice none 0 0) (.slice none 0 0) := XF.new w n0 (.slice none 0 0) (.slice none 0 0)
theorem below_drew1 {B : Nat} {a w : World} (h : Below B a w) : Below B a w.drew := below_drewN h 1
theorem sz_al1 (w : World) (o : Obj) : w.heap.size ≤ (w.alloc o).heap.size := by simp
theorem sz_al2 (w : World) (o p : Obj) : w.heap.size ≤ ((w.alloc o).alloc p).heap.size := Nat.le_trans (sz_al1 w o) (sz_al1 _ p)
theorem below_al1 (w : World) (o : Obj) : Below w.heap.size w (w.alloc o).drew := below_drew1 (alloc_at w o)
theorem below_al2 (w : World) (o p : Obj) : Below w.heap.size w ((w.alloc o).alloc p).drew := below_drew1 ((alloc_at w o).alloc (sz_al1 w o) p)
theorem below_al3 (w : World) (o p q : Obj) : Below w.heap.size w (((w.alloc o).alloc p).alloc q).drew := below_drew1 (((alloc_at w o).alloc (sz_al1 w o) p).alloc (sz_al2 w o p) q)
theorem below_al4 {a w : World} (h : Below a.heap.size a w) (o : Obj) : Below a.heap.size a (w.alloc o) := h.alloc h.size o
/-- A new variable of expressions beside a row at block g. -/
def ZB (B : Nat) (W : World) (g b : Nat) : Prop := XF W b n0 (.slice none 0 0) (.slice none 0 0) ∧ B ≤ b ∧ g ≠ b
theorem zb_grown {B : Nat} {W W' : World} {row : Value} {g b : Nat} (hX : XF W b n0 (.slice none 0 0) (.slice none 0 0)) (hB : B ≤ b) (hne : row.ownBlock ≠ some b) (hg : W.grownBy W' row.ownBlock) (hat : row.ownBlock = some g ∨ W.heap.size ≤ g) : ZB B W' g b :=
  ⟨hX.block (hg.block b hX.at_.1 (fun e => hne e.symm)) hg.size, hB, by
    rcases hat with h | h
    · intro e; subst e; exact hne h
    · have := hX.at_.1; omega⟩
theorem listAt_grown {W W' : World} {row : Value} {g : Nat} {M : List Px} (h : ListAt W g 0 M) (hne : row.ownBlock ≠ some g) (hg : W.grownBy W' row.ownBlock) : ListAt W' g 0 M := h.block fun hl => hg.block g hl (fun e => hne e.symm)
end Go.Proofs.YtjmipikahaoblaaGreatDoor.Syn
namespace Go.Proofs.YtjmipikahaoblaaGreatDoor.Syn
open Go.RowKit Go.Lib Go.Proofs.YtjmipikahaoblaaGreatDoor.Bas Go.Proofs.YtjmipikahaoblaaGreatDoor.Cal Go.Proofs.YtjmipikahaoblaaGreatDoor.Lx Go.Proofs.YtjmipikahaoblaaGreatDoor.Sc Go.Proofs.YtjmipikahaoblaaGreatDoor.Dk
set_option linter.unusedVariables false

/-- What the maker returns: an expression of a depth, in new blocks. -/
def MkOut (n B d : Nat) (v : Value) (l : List Int) (w : World) (e : Ending) (w' : World) : Prop :=
  ∃ (x : Ex) (q1 q2 : Option Addr) (n1 c1 n2 c2 : Nat), e = .returned (exV x.d (.slice q1 n1 c1) (.slice q2 n2 c2)) ∧ MadeB n x ∧ ExS (fun b => w.heap.size ≤ b) w' (exV x.d (.slice q1 n1 c1) (.slice q2 n2 c2)) x ∧ Deck B w' d v l ∧ Kept d w w'
theorem atom_made {x : Nd} (h : AtomB x) : MadeB 1 ⟨x, .nil⟩ := made_leaf x h.ok (by have := h.op; omega) (by have := h.op; omega) h.nm h.ws h.wl
theorem mk_fin {n B d b : Nat} {v : Value} {l : List Int} {w W : World} {x : Ex} {q1 q2 : Option Addr} {n1 c1 n2 c2 : Nat} (hM : MadeB n x) (hb : w.heap.size ≤ b) (hdb : d < b) (hD : Deck B W d v l) (hK : Kept d w W) (hE : ExS (fun g => w.heap.size ≤ g ∧ g ≠ b) W (exV x.d (.slice q1 n1 c1) (.slice q2 n2 c2)) x) :
    MkOut n B d v l w (.returned (exV x.d (.slice q1 n1 c1) (.slice q2 n2 c2))) (setEx W b x.d (.slice q1 n1 c1) (.slice q2 n2 c2)) :=
  ⟨x, q1, q2, n1, c1, n2, c2, rfl, hM, hE.frame fun g hs hl => ⟨hs.1, setEx_block _ _ _ _ _ _ hs.2⟩, deck_setEx hD hdb _ _ _, kept_setEx hK hb _ _ _⟩
theorem made_tf (op : Int) (h : op = 1 ∨ op = 2) (n : Nat) (hn : 1 ≤ n) : MadeB n ⟨⟨op, [], [], 0, 0⟩, .nil⟩ :=
  (made_leaf ⟨op, [], [], 0, 0⟩ (by rcases h with rfl | rfl <;> rfl) (by show 1 ≤ op; omega) (by show op ≤ 5; omega) (by simp) (by simp) (fun x hx => by cases hx)).up hn
/-- The arguments that have been made so far. -/
def Args (n B d : Nat) (v : Value) (l : List Int) (sv : Value) (L : List At) (nv : Value) (ns : List (List UInt8)) (w : World) (b0 be : Nat) (op : Int) (j : Nat) (wr : World) : Prop :=
  ∃ (p : Option Addr) (c : Nat) (P : List Px), P.length = j ∧ XF wr be ⟨op, [], [], 0, 0⟩ (.slice none 0 0) (.slice p j c) ∧ ERow (be + 1) wr (.slice p j c) P ∧ PartsS (fun g => be < g ∧ some g ≠ (Value.slice p j c).ownBlock) wr P ∧ (∀ q ∈ P, MadeB n q.1) ∧
    St B d v l sv L nv ns w wr ∧ XF wr (b0 + 1) n0 (.slice none 0 0) (.slice none 0 0) ∧ OAt wr b0 sv
/-- What makes an expression of depth at most n. -/
def Makes (n B d : Nat) (v : Value) (l : List Int) (sv : Value) (L : List At) (nv : Value) (ns : List (List UInt8)) : Prop := ∀ w, Deck B w d v l → AttsIn (d + 1) w sv L → StrsIn (d + 1) w nv ns →
  Calls Tryz.prog 34 #[.pointer (some ⟨d, 0, none⟩), .agg #[sv], nv, .int .i64 n] w (MkOut n B d v l w)
theorem args_step {n B d : Nat} {v : Value} {l : List Int} {sv : Value} {L : List At} {nv : Value} {ns : List (List UInt8)} {w wr w1 W1 wA : World} {b0 be : Nat} {op : Int} {j : Nat} {p : Option Addr} {c : Nat} {P : List Px} {x : Ex} {q1 q2 : Option Addr} {n1 c1 n2 c2 : Nat} {p6 : Option Addr} {c6 : Nat}
    (hl : P.length = j) (hX : XF wr be ⟨op, [], [], 0, 0⟩ (.slice none 0 0) (.slice p j c)) (hR : ERow (be + 1) wr (.slice p j c) P) (hP : PartsS (fun g => be < g ∧ some g ≠ (Value.slice p j c).ownBlock) wr P) (hm : ∀ q ∈ P, MadeB n q.1) (hS : St B d v l sv L nv ns w wr) (hX1 : XF wr (b0 + 1) n0 (.slice none 0 0) (.slice none 0 0)) (hO : OAt wr b0 sv)
    (hD : Deck B w1 d v l) (hK : Kept d wr w1) (hM : MadeB n x) (hE : ExS (fun g => wr.heap.size ≤ g) w1 (exV x.d (.slice q1 n1 c1) (.slice q2 n2 c2)) x) (hal : Below w1.heap.size w1 W1)
    (hg : W1.grownBy wA (Value.slice p j c).ownBlock) (hR2 : ERow (be + 1) wA (.slice p6 (j + 1) c6) (P ++ [(x, .slice q1 n1 c1, .slice q2 n2 c2)]))
    (hnew : (Value.slice p6 (j + 1) c6).ownBlock = (Value.slice p j c).ownBlock ∨ ∀ g, (Value.slice p6 (j + 1) c6).ownBlock = some g → W1.heap.size ≤ g)
    (hw : w.heap.size ≤ be) (hd : d < be) (h0 : b0 + 1 < be) (hbd : b0 ≠ d) (hbd1 : b0 + 1 ≠ d) :
    Args n B d v l sv L nv ns w b0 be op (j + 1) (wA.setCell ⟨be, 5, none⟩ (.slice p6 (j + 1) c6)) := by
  have hbl := hR.block
  have hs1 := hK.size
  have hs2 := hal.size
  have hs3 := hg.size
  have key : ∀ k, k < wr.heap.size → k ≠ d → some k ≠ (Value.slice p j c).ownBlock → wA.heap[k]? = wr.heap[k]? := fun k hk hkd hn =>
    ((hg.block k (by omega) hn).trans (hal.block k (by omega))).trans (hK.block k hk hkd)
  have key2 : ∀ k, k < w1.heap.size → some k ≠ (Value.slice p j c).ownBlock → wA.heap[k]? = w1.heap[k]? := fun k hk hn => (hg.block k (by omega) hn).trans (hal.block k hk)
  have hsz : wr.heap.size ≤ wA.heap.size := by omega
  have hne : ∀ k, k ≤ be → some k ≠ (Value.slice p j c).ownBlock := fun k hk e => by have := (hbl k e.symm).1; omega
  have hbel := hX.at_.1
  have hsc : ∀ k, k ≠ be → (wA.setCell ⟨be, 5, none⟩ (.slice p6 (j + 1) c6)).heap[k]? = wA.heap[k]? := fun k hk => Below.heap_setCell _ _ _ _ hk
  have hXA := hX.block (key be hbel (by omega) (hne be (Nat.le_refl _))) hsz
  refine ⟨p6, c6, P ++ [(x, .slice q1 n1 c1, .slice q2 n2 c2)], by simp [hl], ?_, ?_, PartsS.append (hP.frame fun g hs hlt => ?_) (PartsS.one ?_ ?_), fun q hq => ?_, ?_, ?_, ?_⟩
  · obtain ⟨⟨z0, y0, y1, y2, y3, y4, y5⟩, f0, f1, f2, f3, f4, f5⟩ := hXA
    refine ⟨⟨by simpa using z0, sc_other _ _ _ _ _ _ (by decide) y0, sc_other _ _ _ _ _ _ (by decide) y1, sc_other _ _ _ _ _ _ (by decide) y2, sc_other _ _ _ _ _ _ (by decide) y3, sc_other _ _ _ _ _ _ (by decide) y4, sc_same _ _ _ _ _ y5⟩, ?_, ?_, ?_, ?_, ?_, ?_⟩
    all_goals rw [World.frozen?_setCell]; assumption
  · exact own_block hR2 fun g hg' => hsc g (by have := (hR2.block g hg').1; omega)
  · have hgd : g ≠ d := by omega
    refine ⟨⟨hs.1, fun e => ?_⟩, ?_⟩
    · rcases hnew with h | h
      · exact hs.2 (by rw [← h]; exact e)
      · have := h g e.symm; omega
    · rw [hsc g (by omega)]; exact key g hlt hgd hs.2
  · obtain ⟨u', a', hv, h1, h2⟩ := hE
    unfold exV at hv
    have hv2 := Value.agg.inj hv
    simp only [Array.mk.injEq, List.cons.injEq, true_and, and_true] at hv2
    obtain ⟨rfl, rfl⟩ := hv2
    refine h1.frame fun g hs hlt => ?_
    have hs' : wr.heap.size ≤ g := hs
    have hgn : some g ≠ (Value.slice p j c).ownBlock := fun e => by have := (hbl g e.symm).2; omega
    refine ⟨⟨by omega, fun e => ?_⟩, ?_⟩
    · rcases hnew with h | h
      · exact hgn (by rw [← h]; exact e)
      · have := h g e.symm; omega
    · rw [hsc g (by omega)]; exact key2 g hlt hgn
  · obtain ⟨u', a', hv, h1, h2⟩ := hE
    unfold exV at hv
    have hv2 := Value.agg.inj hv
    simp only [Array.mk.injEq, List.cons.injEq, true_and, and_true] at hv2
    obtain ⟨rfl, rfl⟩ := hv2
    refine h2.frame fun g hs hlt => ?_
    have hs' : wr.heap.size ≤ g := hs
    have hgn : some g ≠ (Value.slice p j c).ownBlock := fun e => by have := (hbl g e.symm).2; omega
    refine ⟨⟨by omega, fun e => ?_⟩, ?_⟩
    · rcases hnew with h | h
      · exact hgn (by rw [← h]; exact e)
      · have := h g e.symm; omega
    · rw [hsc g (by omega)]; exact key2 g hlt hgn
  · rcases List.mem_append.1 hq with e | e
    · exact hm q e
    · obtain rfl := List.mem_singleton.1 e
      exact hM
  · exact (((hS.kept hD hK).below hal).grown hg fun g e => by have := (hbl g e).1; omega).setCell 5 _ hw hd
  · exact (hX1.block (key _ hX1.at_.1 (by omega) (hne _ (by omega))) hsz).sc _ (by omega)
  · obtain ⟨o0, o1⟩ := hO
    refine ⟨by simpa using Nat.lt_of_lt_of_le o0 hsz, cell_same o1 fun _ => ?_⟩
    rw [hsc b0 (by omega)]; exact key b0 o0 hbd (hne _ (by omega))
end Go.Proofs.YtjmipikahaoblaaGreatDoor.Syn
