/- Texts of marks and of blanks (mathematics). -/
import Derived.Test.YtaengcbjpniclaaGreatDoorLxScan
namespace Go.Proofs.YtaengcbjpniclaaGreatDoor.Lx
open Go.RowKit Go.Lib Go.Proofs.YtaengcbjpniclaaGreatDoor.Bas Go.Proofs.YtaengcbjpniclaaGreatDoor.Cal
set_option linter.unusedVariables false

theorem mark_cases (c : UInt8) (h : markB [c] = true) : c = 59 ∨ c = 58 ∨ c = 44 ∨ c = 40 ∨ c = 41 := by
  have h2 := of_decide_eq_true h
  simpa using h2
theorem first_markc (c : UInt8) (hc : markB [c] = true) (r : List UInt8) : firstV (c :: r) = (⟨4, [c], 0, 0⟩, 1, 0) := by
  rcases mark_cases c hc with rfl | rfl | rfl | rfl | rfl <;> rfl
theorem mark_not (c : UInt8) (hc : markB [c] = true) : ¬ (c.toNat = 32 ∨ c.toNat = 10) ∧ ¬ c.toNat = 35 := by
  rcases mark_cases c hc with rfl | rfl | rfl | rfl | rfl <;> decide
theorem scan_sp (c : UInt8) (hc : c.toNat = 32 ∨ c.toNat = 10) (l : List UInt8) (at' : Nat) (acc : List Tk) : scanL (c :: l) at' acc = scanL l (at' + 1) acc := by
  rw [scanL_step _ _ _ (by simp), show (c :: l).getD 0 0 = c from rfl, if_pos hc]
  rfl
theorem scan_mark1 (c : UInt8) (hc : markB [c] = true) (l : List UInt8) (at' : Nat) (acc : List Tk) (h : acc.length ≠ 4000) : scanL (c :: l) at' acc = scanL l (at' + 1) (acc ++ [⟨4, [c], 0, (at' : Int)⟩]) := by
  rw [scanL_step _ _ _ (by simp), show (c :: l).getD 0 0 = c from rfl, if_neg (mark_not c hc).1, if_neg (mark_not c hc).2, first_markc c hc l, if_neg (by simp), if_neg h, if_neg (by simp)]
  rfl
theorem scan_mark0 (c : UInt8) (hc : markB [c] = true) (l : List UInt8) (at' : Nat) (acc : List Tk) (h : acc.length = 4000) : scanL (c :: l) at' acc = ([], (at' : Int), 4) := by
  rw [scanL_step _ _ _ (by simp), show (c :: l).getD 0 0 = c from rfl, if_neg (mark_not c hc).1, if_neg (mark_not c hc).2, first_markc c hc l, if_neg (by simp), if_pos h]
theorem scan_marks (c : UInt8) (hc : markB [c] = true) (r : List UInt8) : ∀ (n at' : Nat) (acc : List Tk), acc.length + n ≤ 4000 → ∃ M : List Tk, M.length = n ∧ scanL (List.replicate n c ++ r) at' acc = scanL r (at' + n) (acc ++ M) := by
  intro n
  induction n with
  | zero => intro at' acc _; exact ⟨[], rfl, by simp⟩
  | succ n ih =>
    intro at' acc h
    obtain ⟨M, hM, he⟩ := ih (at' + 1) (acc ++ [⟨4, [c], 0, (at' : Int)⟩]) (by simp; omega)
    refine ⟨⟨4, [c], 0, (at' : Int)⟩ :: M, by simp [hM], ?_⟩
    rw [List.replicate_succ, List.cons_append, scan_mark1 c hc _ _ _ (by omega), he, List.append_assoc, Nat.add_assoc, Nat.add_comm 1 n]
    rfl
theorem scan_blanks (r : List UInt8) (acc : List Tk) : ∀ (n at' : Nat), scanL (List.replicate n 32 ++ r) at' acc = scanL r (at' + n) acc := by
  intro n
  induction n with
  | zero => intro at'; simp
  | succ n ih =>
    intro at'
    rw [List.replicate_succ, List.cons_append, scan_sp 32 (by decide), ih, Nat.add_assoc, Nat.add_comm 1 n]
theorem lim_full (c : UInt8) (hc : markB [c] = true) (n : Nat) (hn : n = 4000) : ∃ A : List Tk, A.length = n ∧ scanV (List.replicate n c) = (A, 0, 0) := by
  obtain ⟨M, hM, he⟩ := scan_marks c hc [] n 0 [] (by simp; omega)
  rw [List.append_nil] at he
  refine ⟨[] ++ M, by simpa using hM, ?_⟩
  unfold scanV
  rw [if_neg (by simp; omega), he]
  rfl
theorem lim_over (c : UInt8) (hc : markB [c] = true) (n : Nat) (hn : n = 4000) : scanV (List.replicate n c ++ [32] ++ [c]) = ([], (n : Int) + 1, 4) := by
  obtain ⟨M, hM, he⟩ := scan_marks c hc [32, c] n 0 [] (by simp; omega)
  unfold scanV
  rw [if_neg (by simp; omega), List.append_assoc, show [(32 : UInt8)] ++ [c] = [32, c] from rfl, he, scan_sp 32 (by decide), scan_mark0 c hc _ _ _ (by simp; omega)]
  simp
theorem lim_text (c : UInt8) (hc : markB [c] = true) (n : Nat) (hn : n = 16383) : scanV (List.replicate n 32 ++ [c]) = ([⟨4, [c], 0, (n : Int)⟩], 0, 0) := by
  unfold scanV
  rw [if_neg (by simp; omega), scan_blanks, scan_mark1 c hc _ _ _ (by simp)]
  simp [scanL_nil]
theorem lim_long (c : UInt8) (n : Nat) (hn : n = 16384) : scanV (List.replicate n 32 ++ [c]) = ([], 0, 4) := by
  unfold scanV
  rw [if_pos (by simp; omega)]
end Go.Proofs.YtaengcbjpniclaaGreatDoor.Lx
