/- The reference's text of a token. -/
import Derived.Test.YtaengcbjpniclaaGreatDoorLxBack
import Derived.Test.YtaengcbjpniclaaGreatDoorLxRefW
import Derived.Test.YtaengcbjpniclaaGreatDoorLxWrtN
namespace Go.Proofs.YtaengcbjpniclaaGreatDoor.Lx
open Go.RowKit Go.Lib Go.Proofs.YtaengcbjpniclaaGreatDoor.Bas Go.Proofs.YtaengcbjpniclaaGreatDoor.Cal
set_option linter.unusedVariables false

theorem valid_any (n : Int) (w : World) : Calls Tryz.prog 36 #[.int .i64 n] w (BoolSame (decide (-17592186044416 ≤ n ∧ n ≤ 17592186044416)) w) := by
  by_cases h1 : -17592186044416 ≤ n
  · have t1 : decide (-17592186044416 ≤ n) = true := decide_eq_true h1
    by_cases h2 : n ≤ 17592186044416
    · have t2 : decide (n ≤ 17592186044416) = true := decide_eq_true h2
      rw [decide_eq_true ⟨h1, h2⟩]
      clear h1 h2
      go_enter Tryz.func36, Tryz.ntmps36
      go_wp2_with fail
      go_ret
      exact ⟨rfl, rfl⟩
    · have t2 : decide (n ≤ 17592186044416) = false := decide_eq_false h2
      rw [decide_eq_false (fun h => h2 h.2)]
      clear h1 h2
      go_enter Tryz.func36, Tryz.ntmps36
      go_wp2_with fail
      go_ret
      exact ⟨rfl, rfl⟩
  · have t1 : decide (-17592186044416 ≤ n) = false := decide_eq_false h1
    rw [decide_eq_false (fun h => h1 h.1)]
    clear h1
    go_enter Tryz.func36, Tryz.ntmps36
    go_wp2_with fail
    go_ret
    exact ⟨rfl, rfl⟩
theorem dgs_snoc (n k : Nat) : dgs n (k + 1) = dgs (n / 10) k ++ [dgc ((n % 10 : Nat) : Int)] := by
  induction k with
  | zero => simp [dgs]
  | succ k ih =>
    show dgc (((n / 10 ^ (k + 1) : Nat) : Int) % 10) :: dgs n (k + 1) = (dgc (((n / 10 / 10 ^ k : Nat) : Int) % 10) :: dgs (n / 10) k) ++ _
    rw [ih, Nat.div_div_eq_div_mul, Nat.pow_succ, Nat.mul_comm 10]
    rfl
theorem dgs_dec (n : Nat) : ∀ k, Lst n 1 k → dgs n k = decDigits n := by
  induction n using Nat.strongRecOn with
  | ind n ih =>
    intro k hk
    obtain ⟨h1, h2, h3⟩ := hk
    obtain ⟨j, rfl⟩ : ∃ j, k = j + 1 := ⟨k - 1, by omega⟩
    rw [dgs_snoc]
    by_cases h : n < 10
    · have hj : j = 0 := by
        by_cases e : j = 0
        · exact e
        · have := h3 1 (by omega) (by omega); omega
      subst hj
      rw [decDigits, dif_pos h]
      simp only [dgs, List.nil_append, dgc]
      congr 2
      omega
    · rw [decDigits, dif_neg h]
      have hj : 1 ≤ j := by
        by_cases e : j = 0
        · subst e; omega
        · omega
      rw [ih (n / 10) (by omega) j ⟨hj, by rw [Nat.pow_succ] at h2; omega, fun i hi hij => by
        have := h3 (i + 1) (by omega) (by omega)
        rw [Nat.pow_succ] at this
        omega⟩]
      congr 2
theorem dec_pos (n : Int) (w : World) (h0 : 0 ≤ n) (h1 : n ≤ 17592186044416) : Calls Tryz.prog 52 #[.int .i64 n, .int .i64 1] w (StrBe (tx (decDigits n.toNat)) w) := by
  have c := digits_gen n.toNat 1 w (by omega) (by omega)
  rw [show ((n.toNat : Nat) : Int) = n by omega] at c
  refine c.mono ?_
  rintro e w' ⟨k, hk, rfl, hB⟩
  rw [dgs_dec _ _ hk]
  exact ⟨rfl, hB⟩
set_option maxHeartbeats 1000000 in
theorem decimal_any (n : Int) (w : World) (h0 : -17592186044416 ≤ n) (h1 : n ≤ 17592186044416) : Calls Tryz.prog 37 #[.int .i64 n] w (StrBe (tx (itoa n)) w) := by
  by_cases hn : n < 0
  · have t1 : decide (n < 0) = true := decide_eq_true hn
    have hi : itoa n = 45 :: decDigits n.natAbs := by unfold itoa; rw [if_pos hn]
    rw [hi]
    have hl : (decDigits n.natAbs).length ≤ 21 := by have := itoa_length_le n (by omega) (by omega); rw [hi] at this; simp at this; omega
    have c := Lib.hid (dec_pos (-n) w (by omega) (by omega))
    rw [show (-n).toNat = n.natAbs by omega] at c
    have hcat := tx_cat [45] (decDigits n.natAbs) Tryz.prog
    have hcat2 : ∀ w, (Op.stringOp .add { data := #[45] } (tx (decDigits n.natAbs))).run Tryz.prog w = .ok (.string (tx (45 :: decDigits n.natAbs))) w := fun w => hcat w (by simp; omega)
    generalize tx (decDigits n.natAbs) = f at *
    generalize tx (45 :: decDigits n.natAbs) = f2 at *
    have hw1 : IntKind.i64.wrap (-n) = -n := IntWalk.i64_in _ (by omega)
    clear hi hl hn hcat
    go_enter Tryz.func37, Tryz.ntmps37
    go_wp2_with fail
    refine c.out.mono ?_; rintro e W1 ⟨rfl, hB⟩
    have B := Lib.hid hB
    clear hB
    go_wp2_with fail
    go_ret
    exact ⟨rfl, B.out⟩
  · have t1 : decide (n < 0) = false := decide_eq_false hn
    have hi : itoa n = decDigits n.toNat := by unfold itoa; rw [if_neg hn]
    rw [hi]
    have c := Lib.hid (dec_pos n w (by omega) (by omega))
    generalize tx (decDigits n.toNat) = f at *
    clear hi hn
    go_enter Tryz.func37, Tryz.ntmps37
    go_wp2_with fail
    refine c.out.mono ?_; rintro e W1 ⟨rfl, hB⟩
    have B := Lib.hid hB
    clear hB
    go_wp2_with fail
    go_ret
    exact ⟨rfl, B.out⟩
/-- A text, which is the token's if it has no error, and the error. -/
def WrOut (t : Tk) (w : World) (e : Ending) (w' : World) : Prop := ∃ s, (wrE t = 0 → s = tx (wr t)) ∧ e = .returned (.tuple #[.string s, .int .i64 (wrE t)]) ∧ Below w.heap.size w w'
set_option maxHeartbeats 4000000 in
theorem rw_kind1 (k : Int) (u : List UInt8) (n p : Int) (w : World) (t1 : decide (k < 1) = true) (hE : wrE ⟨k, u, n, p⟩ = 11) : Calls Tryz.prog 18 #[tkV ⟨k, u, n, p⟩] w (WrOut ⟨k, u, n, p⟩ w) := by
  have B := Lib.hid (below_box w (.cells #[.int .i64 k, .string (tx u), .int .i64 n, .int .i64 p] 25))
  unfold tkV WrOut
  rw [hE]
  clear hE
  go_enter Tryz.func18, Tryz.ntmps18
  go_wp2_with fail
  go_ret2
  exact ⟨_, fun h => absurd h (by decide), rfl, B.out⟩
set_option maxHeartbeats 4000000 in
theorem rw_kind (k : Int) (u : List UInt8) (n p : Int) (w : World) (hk : k < 1 ∨ 4 < k) : Calls Tryz.prog 18 #[tkV ⟨k, u, n, p⟩] w (WrOut ⟨k, u, n, p⟩ w) := by
  have hE : wrE ⟨k, u, n, p⟩ = 11 := by simp [wrE, hk]
  by_cases h1 : k < 1
  · have t1 : decide (k < 1) = true := decide_eq_true h1
    clear hk h1
    exact rw_kind1 k u n p w t1 hE
  have t1 : decide (k < 1) = false := decide_eq_false h1
  have t2 : decide (4 < k) = true := decide_eq_true (by omega)
  clear hk h1
  have B := Lib.hid (below_box w (.cells #[.int .i64 k, .string (tx u), .int .i64 n, .int .i64 p] 25))
  unfold tkV WrOut
  rw [hE]
  clear hE
  go_enter Tryz.func18, Tryz.ntmps18
  go_wp2_with fail
  go_ret2
  exact ⟨_, fun h => absurd h (by decide), rfl, B.out⟩
set_option maxHeartbeats 4000000 in
theorem rw_field1 (u : List UInt8) (n p : Int) (w : World) (hn : n ≠ 0) : Calls Tryz.prog 18 #[tkV ⟨1, u, n, p⟩] w (WrOut ⟨1, u, n, p⟩ w) := by
  have hE : wrE ⟨1, u, n, p⟩ = 20 := by simp [wrE, hn]
  have t1 : (n == 0) = false := by simp [hn]
  have t2 : (n != 0) = true := by simp [hn]
  clear hn
  have B := Lib.hid (below_box w (.cells #[.int .i64 1, .string (tx u), .int .i64 n, .int .i64 p] 25))
  unfold tkV WrOut
  rw [hE]
  clear hE
  go_enter Tryz.func18, Tryz.ntmps18
  go_wp2_with fail
  go_ret2
  exact ⟨_, fun h => absurd h (by decide), rfl, B.out⟩
set_option maxHeartbeats 4000000 in
theorem rw_field4 (u : List UInt8) (n p : Int) (w : World) (hn : n ≠ 0) : Calls Tryz.prog 18 #[tkV ⟨4, u, n, p⟩] w (WrOut ⟨4, u, n, p⟩ w) := by
  have hE : wrE ⟨4, u, n, p⟩ = 20 := by simp [wrE, hn]
  have t1 : (n == 0) = false := by simp [hn]
  have t2 : (n != 0) = true := by simp [hn]
  clear hn
  have B := Lib.hid (below_box w (.cells #[.int .i64 4, .string (tx u), .int .i64 n, .int .i64 p] 25))
  unfold tkV WrOut
  rw [hE]
  clear hE
  go_enter Tryz.func18, Tryz.ntmps18
  go_wp2_with fail
  go_ret2
  exact ⟨_, fun h => absurd h (by decide), rfl, B.out⟩
set_option maxHeartbeats 4000000 in
theorem rw_field2 (u : List UInt8) (n p : Int) (w : World) (hu : u ≠ []) : Calls Tryz.prog 18 #[tkV ⟨2, u, n, p⟩] w (WrOut ⟨2, u, n, p⟩ w) := by
  have hE : wrE ⟨2, u, n, p⟩ = 20 := by simp [wrE, hu]
  have ie := isEmpty_tx u hu
  have ie2 : ((tx u).toList == []) = false := by rw [toList_bl, bl_tx]; simpa using hu
  clear hu
  have B := Lib.hid (below_box w (.cells #[.int .i64 2, .string (tx u), .int .i64 n, .int .i64 p] 25))
  unfold tkV WrOut
  rw [hE]
  clear hE
  go_enter Tryz.func18, Tryz.ntmps18
  go_wp2_with fail
  go_ret2
  exact ⟨_, fun h => absurd h (by decide), rfl, B.out⟩
set_option maxHeartbeats 4000000 in
theorem rw_field3 (u : List UInt8) (n p : Int) (w : World) (hu : u ≠ []) : Calls Tryz.prog 18 #[tkV ⟨3, u, n, p⟩] w (WrOut ⟨3, u, n, p⟩ w) := by
  have hE : wrE ⟨3, u, n, p⟩ = 20 := by simp [wrE, hu]
  have ie := isEmpty_tx u hu
  have ie2 : ((tx u).toList == []) = false := by rw [toList_bl, bl_tx]; simpa using hu
  clear hu
  have B := Lib.hid (below_box w (.cells #[.int .i64 3, .string (tx u), .int .i64 n, .int .i64 p] 25))
  unfold tkV WrOut
  rw [hE]
  clear hE
  go_enter Tryz.func18, Tryz.ntmps18
  go_wp2_with fail
  go_ret2
  exact ⟨_, fun h => absurd h (by decide), rfl, B.out⟩
set_option maxHeartbeats 4000000 in
theorem rw_name_true (u : List UInt8) (n p : Int) (w : World) (hu : u.length ≤ 9223372036854775807) (hn : n = 0) (hw : wordB u = true) : Calls Tryz.prog 18 #[tkV ⟨1, u, n, p⟩] w (WrOut ⟨1, u, n, p⟩ w) := by
  have hE : wrE ⟨1, u, n, p⟩ = 0 := by simp [wrE, hn, hw]
  have c1 := Lib.hid (fun w => rWord_any (tx u) w (by rw [tx_size]; exact hu))
  rw [bl_tx, hw] at c1
  have t1 : (n == 0) = true := by simp [hn]
  have t2 : (n != 0) = false := by simp [hn]
  clear hn hw
  have B := Lib.hid (below_box w (.cells #[.int .i64 1, .string (tx u), .int .i64 n, .int .i64 p] 25))
  unfold tkV WrOut
  rw [hE]
  clear hE
  go_enter Tryz.func18, Tryz.ntmps18
  go_wp2_with fail
  refine (c1.out _).mono ?_; rintro e w' ⟨rfl, rfl⟩
  go_wp2_with fail
  go_ret2
  exact ⟨_, fun _ => rfl, rfl, B.out⟩
set_option maxHeartbeats 4000000 in
theorem rw_mark_true (u : List UInt8) (n p : Int) (w : World) (hn : n = 0) (hw : markB u = true) : Calls Tryz.prog 18 #[tkV ⟨4, u, n, p⟩] w (WrOut ⟨4, u, n, p⟩ w) := by
  have hE : wrE ⟨4, u, n, p⟩ = 0 := by simp [wrE, hn, hw]
  have c1 := Lib.hid (rmark_any (tx u))
  rw [bl_tx, hw] at c1
  have t1 : (n == 0) = true := by simp [hn]
  have t2 : (n != 0) = false := by simp [hn]
  clear hn hw
  have B := Lib.hid (below_box w (.cells #[.int .i64 4, .string (tx u), .int .i64 n, .int .i64 p] 25))
  unfold tkV WrOut
  rw [hE]
  clear hE
  go_enter Tryz.func18, Tryz.ntmps18
  go_wp2_with fail
  refine (c1.out _).mono ?_; rintro e w' ⟨rfl, rfl⟩
  go_wp2_with fail
  go_ret2
  exact ⟨_, fun _ => rfl, rfl, B.out⟩
set_option maxHeartbeats 4000000 in
theorem rw_name_false (u : List UInt8) (n p : Int) (w : World) (hu : u.length ≤ 9223372036854775807) (hn : n = 0) (hw : wordB u = false) : Calls Tryz.prog 18 #[tkV ⟨1, u, n, p⟩] w (WrOut ⟨1, u, n, p⟩ w) := by
  have hE : wrE ⟨1, u, n, p⟩ = 6 := by simp [wrE, hn, hw]
  have c1 := Lib.hid (fun w => rWord_any (tx u) w (by rw [tx_size]; exact hu))
  rw [bl_tx, hw] at c1
  have t1 : (n == 0) = true := by simp [hn]
  have t2 : (n != 0) = false := by simp [hn]
  clear hn hw
  have B := Lib.hid (below_box w (.cells #[.int .i64 1, .string (tx u), .int .i64 n, .int .i64 p] 25))
  unfold tkV WrOut
  rw [hE]
  clear hE
  go_enter Tryz.func18, Tryz.ntmps18
  go_wp2_with fail
  refine (c1.out _).mono ?_; rintro e w' ⟨rfl, rfl⟩
  go_wp2_with fail
  go_ret2
  exact ⟨_, fun h => absurd h (by decide), rfl, B.out⟩
set_option maxHeartbeats 4000000 in
theorem rw_mark_false (u : List UInt8) (n p : Int) (w : World) (hn : n = 0) (hw : markB u = false) : Calls Tryz.prog 18 #[tkV ⟨4, u, n, p⟩] w (WrOut ⟨4, u, n, p⟩ w) := by
  have hE : wrE ⟨4, u, n, p⟩ = 5 := by simp [wrE, hn, hw]
  have c1 := Lib.hid (rmark_any (tx u))
  rw [bl_tx, hw] at c1
  have t1 : (n == 0) = true := by simp [hn]
  have t2 : (n != 0) = false := by simp [hn]
  clear hn hw
  have B := Lib.hid (below_box w (.cells #[.int .i64 4, .string (tx u), .int .i64 n, .int .i64 p] 25))
  unfold tkV WrOut
  rw [hE]
  clear hE
  go_enter Tryz.func18, Tryz.ntmps18
  go_wp2_with fail
  refine (c1.out _).mono ?_; rintro e w' ⟨rfl, rfl⟩
  go_wp2_with fail
  go_ret2
  exact ⟨_, fun h => absurd h (by decide), rfl, B.out⟩
set_option maxHeartbeats 4000000 in
theorem rw_num (u : List UInt8) (n p : Int) (w : World) (hu : u = []) (hn : -17592186044416 ≤ n ∧ n ≤ 17592186044416) : Calls Tryz.prog 18 #[tkV ⟨2, u, n, p⟩] w (WrOut ⟨2, u, n, p⟩ w) := by
  subst hu
  have ie : (tx []).toList.isEmpty = true := by rw [toList_bl]; rfl
  have ie2 : ((tx []).toList == []) = true := by rw [toList_bl]; rfl
  have hE : wrE ⟨2, [], n, p⟩ = 0 := by simp [wrE, hn]
  have c1 := Lib.hid (valid_any n)
  rw [decide_eq_true hn] at c1
  have c2 := Lib.hid (fun w => decimal_any n w hn.1 hn.2)
  have hq := Lib.hid (show tx (itoa n) = tx (wr ⟨2, [], n, p⟩) from rfl)
  generalize tx (itoa n) = f at *
  clear hn
  have B := Lib.hid (below_box w (.cells #[.int .i64 2, .string (tx []), .int .i64 n, .int .i64 p] 25))
  unfold tkV WrOut
  rw [hE]
  clear hE
  go_enter Tryz.func18, Tryz.ntmps18
  go_wp2_with fail
  refine (c1.out _).mono ?_; rintro e w' ⟨rfl, rfl⟩
  go_wp2_with fail
  refine (c2.out _).mono ?_; rintro e W1 ⟨rfl, hB⟩
  have B2 := Lib.hid (B.out.trans (hB.mono B.out.size))
  clear hB
  go_wp2_with fail
  go_ret2
  exact ⟨_, fun _ => hq.out, rfl, B2.out⟩
set_option maxHeartbeats 4000000 in
theorem rw_num_bad (u : List UInt8) (n p : Int) (w : World) (hu : u = []) (hn : ¬ (-17592186044416 ≤ n ∧ n ≤ 17592186044416)) : Calls Tryz.prog 18 #[tkV ⟨2, u, n, p⟩] w (WrOut ⟨2, u, n, p⟩ w) := by
  subst hu
  have ie : (tx []).toList.isEmpty = true := by rw [toList_bl]; rfl
  have ie2 : ((tx []).toList == []) = true := by rw [toList_bl]; rfl
  have hE : wrE ⟨2, [], n, p⟩ = 1 := by simp [wrE]; omega
  have c1 := Lib.hid (valid_any n)
  rw [decide_eq_false hn] at c1
  clear hn
  have B := Lib.hid (below_box w (.cells #[.int .i64 2, .string (tx []), .int .i64 n, .int .i64 p] 25))
  unfold tkV WrOut
  rw [hE]
  clear hE
  go_enter Tryz.func18, Tryz.ntmps18
  go_wp2_with fail
  refine (c1.out _).mono ?_; rintro e w' ⟨rfl, rfl⟩
  go_wp2_with fail
  go_ret2
  exact ⟨_, fun h => absurd h (by decide), rfl, B.out⟩
set_option maxHeartbeats 4000000 in
theorem rw_hour (u : List UInt8) (n p : Int) (w : World) (hu : u = []) (hn : 0 ≤ n ∧ n ≤ 876599) : Calls Tryz.prog 18 #[tkV ⟨3, u, n, p⟩] w (WrOut ⟨3, u, n, p⟩ w) := by
  subst hu
  have ie : (tx []).toList.isEmpty = true := by rw [toList_bl]; rfl
  have ie2 : ((tx []).toList == []) = true := by rw [toList_bl]; rfl
  have hE : wrE ⟨3, [], n, p⟩ = 0 := by simp [wrE, hn]
  have c := Lib.hid (rformat_any n)
  rw [show fmtV n = (fmtT n, 0) by unfold fmtV; rw [if_pos hn]] at c
  have hcat := fmt_cat n Tryz.prog
  have hq := Lib.hid (show tx (64 :: bl (fmtT n)) = tx (wr ⟨3, [], n, p⟩) from rfl)
  generalize tx (64 :: bl (fmtT n)) = f2 at *
  generalize fmtT n = f at *
  clear hn
  have B := Lib.hid (below_box w (.cells #[.int .i64 3, .string (tx []), .int .i64 n, .int .i64 p] 25))
  unfold tkV WrOut
  rw [hE]
  clear hE
  go_enter Tryz.func18, Tryz.ntmps18
  go_wp2_with fail
  refine (c.out _).mono ?_; rintro e W1 ⟨rfl, hB⟩
  have B2 := Lib.hid (B.out.trans (hB.mono B.out.size))
  clear hB
  go_wp2_with fail
  go_ret2
  exact ⟨_, fun _ => hq.out, rfl, B2.out⟩
set_option maxHeartbeats 4000000 in
theorem rw_hour_bad (u : List UInt8) (n p : Int) (w : World) (hu : u = []) (hn : ¬ (0 ≤ n ∧ n ≤ 876599)) : Calls Tryz.prog 18 #[tkV ⟨3, u, n, p⟩] w (WrOut ⟨3, u, n, p⟩ w) := by
  subst hu
  have ie : (tx []).toList.isEmpty = true := by rw [toList_bl]; rfl
  have ie2 : ((tx []).toList == []) = true := by rw [toList_bl]; rfl
  have hE : wrE ⟨3, [], n, p⟩ = 1 := by simp [wrE, hn]
  have c := Lib.hid (rformat_any n)
  rw [show fmtV n = ({ data := #[] }, 1) by unfold fmtV; rw [if_neg hn]] at c
  clear hn
  have B := Lib.hid (below_box w (.cells #[.int .i64 3, .string (tx []), .int .i64 n, .int .i64 p] 25))
  unfold tkV WrOut
  rw [hE]
  clear hE
  go_enter Tryz.func18, Tryz.ntmps18
  go_wp2_with fail
  refine (c.out _).mono ?_; rintro e W1 ⟨rfl, hB⟩
  have B2 := Lib.hid (B.out.trans (hB.mono B.out.size))
  clear hB
  go_wp2_with fail
  go_ret2
  exact ⟨_, fun h => absurd h (by decide), rfl, B2.out⟩
theorem rwritten_any (t : Tk) (w : World) (hu : t.t.length ≤ 9223372036854775807) : Calls Tryz.prog 18 #[tkV t] w (WrOut t w) := by
  obtain ⟨k, u, n, p⟩ := t
  by_cases hk : k < 1 ∨ 4 < k
  · exact rw_kind k u n p w hk
  · rcases (show k = 1 ∨ k = 2 ∨ k = 3 ∨ k = 4 by omega) with rfl | rfl | rfl | rfl
    · by_cases hn : n = 0
      · cases hw : wordB u with
        | true => exact rw_name_true u n p w hu hn hw
        | false => exact rw_name_false u n p w hu hn hw
      · exact rw_field1 u n p w hn
    · by_cases he : u = []
      · by_cases hn : -17592186044416 ≤ n ∧ n ≤ 17592186044416
        · exact rw_num u n p w he hn
        · exact rw_num_bad u n p w he hn
      · exact rw_field2 u n p w he
    · by_cases he : u = []
      · by_cases hn : 0 ≤ n ∧ n ≤ 876599
        · exact rw_hour u n p w he hn
        · exact rw_hour_bad u n p w he hn
      · exact rw_field3 u n p w he
    · by_cases hn : n = 0
      · cases hw : markB u with
        | true => exact rw_mark_true u n p w hn hw
        | false => exact rw_mark_false u n p w hn hw
      · exact rw_field4 u n p w hn
end Go.Proofs.YtaengcbjpniclaaGreatDoor.Lx
