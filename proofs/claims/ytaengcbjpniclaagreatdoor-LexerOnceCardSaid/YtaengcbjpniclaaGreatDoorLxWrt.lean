/- Package lexer: the text of a token. -/
import Derived.Test.YtaengcbjpniclaaGreatDoorLxFst
import Derived.Lib.ItoaLen
namespace Go.Proofs.YtaengcbjpniclaaGreatDoor.Lx
open Go.RowKit Go.Lib Go.Proofs.YtaengcbjpniclaaGreatDoor.Bas Go.Proofs.YtaengcbjpniclaaGreatDoor.Cal
set_option linter.unusedVariables false

/-- A token's text, if it has no error. -/
def wrS (t : Tk) : ByteArray := if wrE t = 0 then tx (wr t) else { data := #[] }
theorem wrS_bad (t : Tk) (e : Int) (h : wrE t = e) (h0 : e ≠ 0) : wrS t = { data := #[] } := by unfold wrS; rw [if_neg (by rw [h]; exact h0)]
theorem below_box (w : World) (o : Obj) : Below w.heap.size w (w.alloc o) := (Below.refl _ _).alloc (Nat.le_refl _) o
set_option maxHeartbeats 4000000 in
theorem text_name (u : List UInt8) (n p : Int) (w : World) (hu : u.length ≤ 9223372036854775807) : Calls Tryz.prog 31 #[tkV ⟨1, u, n, p⟩] w (StrOut (wrS ⟨1, u, n, p⟩) (wrE ⟨1, u, n, p⟩) w) := by
  have c1 := Lib.hid (fun w => isWord_any (tx u) w (by rw [tx_size]; exact hu))
  rw [bl_tx] at c1
  unfold tkV
  by_cases hn : n = 0
  · have t1 : (n == 0) = true := by simp [hn]
    have t2 : (n != 0) = false := by simp [hn]
    cases hw : wordB u with
    | true =>
      have hE : wrE ⟨1, u, n, p⟩ = 0 := by simp [wrE, hn, hw]
      have hS : wrS ⟨1, u, n, p⟩ = tx u := by unfold wrS; rw [if_pos hE]; rfl
      rw [hE, hS]
      rw [hw] at c1
      clear hw hn hE hS
      have B := Lib.hid (below_box w (.cells #[.int .i64 1, .string (tx u), .int .i64 n, .int .i64 p] 25))
      go_enter Tryz.func31, Tryz.ntmps31
      go_wp2_with fail
      refine (c1.out _).mono ?_; rintro e w' ⟨rfl, rfl⟩
      go_wp2_with fail
      go_ret2
      exact ⟨rfl, B.out⟩
    | false =>
      have hE : wrE ⟨1, u, n, p⟩ = 6 := by simp [wrE, hn, hw]
      rw [wrS_bad _ _ hE (by decide), hE]
      rw [hw] at c1
      clear hw hn hE
      have B := Lib.hid (below_box w (.cells #[.int .i64 1, .string (tx u), .int .i64 n, .int .i64 p] 25))
      go_enter Tryz.func31, Tryz.ntmps31
      go_wp2_with fail
      refine (c1.out _).mono ?_; rintro e w' ⟨rfl, rfl⟩
      go_wp2_with fail
      go_ret2
      exact ⟨rfl, B.out⟩
  · have t1 : (n == 0) = false := by simp [hn]
    have t2 : (n != 0) = true := by simp [hn]
    have hE : wrE ⟨1, u, n, p⟩ = 20 := by simp [wrE, hn]
    rw [wrS_bad _ _ hE (by decide), hE]
    clear hn hE
    have B := Lib.hid (below_box w (.cells #[.int .i64 1, .string (tx u), .int .i64 n, .int .i64 p] 25))
    go_enter Tryz.func31, Tryz.ntmps31
    go_wp2_with fail
    go_ret2
    exact ⟨rfl, B.out⟩
set_option maxHeartbeats 4000000 in
theorem text_mark (u : List UInt8) (n p : Int) (w : World) : Calls Tryz.prog 31 #[tkV ⟨4, u, n, p⟩] w (StrOut (wrS ⟨4, u, n, p⟩) (wrE ⟨4, u, n, p⟩) w) := by
  have c1 := Lib.hid (isMark_any (tx u))
  rw [bl_tx] at c1
  unfold tkV
  by_cases hn : n = 0
  · have t1 : (n == 0) = true := by simp [hn]
    have t2 : (n != 0) = false := by simp [hn]
    cases hw : markB u with
    | true =>
      have hE : wrE ⟨4, u, n, p⟩ = 0 := by simp [wrE, hn, hw]
      have hS : wrS ⟨4, u, n, p⟩ = tx u := by unfold wrS; rw [if_pos hE]; rfl
      rw [hE, hS]
      rw [hw] at c1
      clear hw hn hE hS
      have B := Lib.hid (below_box w (.cells #[.int .i64 4, .string (tx u), .int .i64 n, .int .i64 p] 25))
      go_enter Tryz.func31, Tryz.ntmps31
      go_wp2_with fail
      refine (c1.out _).mono ?_; rintro e w' ⟨rfl, rfl⟩
      go_wp2_with fail
      go_ret2
      exact ⟨rfl, B.out⟩
    | false =>
      have hE : wrE ⟨4, u, n, p⟩ = 5 := by simp [wrE, hn, hw]
      rw [wrS_bad _ _ hE (by decide), hE]
      rw [hw] at c1
      clear hw hn hE
      have B := Lib.hid (below_box w (.cells #[.int .i64 4, .string (tx u), .int .i64 n, .int .i64 p] 25))
      go_enter Tryz.func31, Tryz.ntmps31
      go_wp2_with fail
      refine (c1.out _).mono ?_; rintro e w' ⟨rfl, rfl⟩
      go_wp2_with fail
      go_ret2
      exact ⟨rfl, B.out⟩
  · have t1 : (n == 0) = false := by simp [hn]
    have t2 : (n != 0) = true := by simp [hn]
    have hE : wrE ⟨4, u, n, p⟩ = 20 := by simp [wrE, hn]
    rw [wrS_bad _ _ hE (by decide), hE]
    clear hn hE
    have B := Lib.hid (below_box w (.cells #[.int .i64 4, .string (tx u), .int .i64 n, .int .i64 p] 25))
    go_enter Tryz.func31, Tryz.ntmps31
    go_wp2_with fail
    go_ret2
    exact ⟨rfl, B.out⟩
end Go.Proofs.YtaengcbjpniclaaGreatDoor.Lx
