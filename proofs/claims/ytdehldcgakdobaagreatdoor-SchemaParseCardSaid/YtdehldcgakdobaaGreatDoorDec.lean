/- The reference's Decimal. -/
import Derived.Test.YtdehldcgakdobaaGreatDoorDigs
import Derived.Lib.ItoaNum
import Derived.Lib.ItoaLen
namespace Go.Proofs.YtdehldcgakdobaaGreatDoor.Lx
open Go.RowKit Go.Lib Go.Proofs.YtdehldcgakdobaaGreatDoor.Bas Go.Proofs.YtdehldcgakdobaaGreatDoor.Cal
set_option linter.unusedVariables false

theorem dgs_snoc (n k : Nat) : dgs n (k + 1) = dgs (n / 10) k ++ [dgc ((n % 10 : Nat) : Int)] := by
  induction k with
  | zero => simp [dgs]
  | succ k ih =>
    show dgc (((n / 10 ^ (k + 1) : Nat) : Int) % 10) :: dgs n (k + 1) = (dgc (((n / 10 / 10 ^ k : Nat) : Int) % 10) :: dgs (n / 10) k) ++ _
    rw [ih, Nat.div_div_eq_div_mul, Nat.pow_succ, Nat.mul_comm 10]
    rfl
theorem dgs_dec (n : Nat) : ∀ k, Lst n 1 k → dgs n k = decDigits n := by
  induction n using Nat.strongRecOn with
  | ind n ih =>
    intro k hk
    obtain ⟨h1, h2, h3⟩ := hk
    obtain ⟨j, rfl⟩ : ∃ j, k = j + 1 := ⟨k - 1, by omega⟩
    rw [dgs_snoc]
    by_cases h : n < 10
    · have hj : j = 0 := by
        by_cases e : j = 0
        · exact e
        · have := h3 1 (by omega) (by omega); omega
      subst hj
      rw [decDigits, dif_pos h]
      simp only [dgs, List.nil_append, dgc]
      congr 2
      omega
    · rw [decDigits, dif_neg h]
      have hj : 1 ≤ j := by
        by_cases e : j = 0
        · subst e; omega
        · omega
      rw [ih (n / 10) (by omega) j ⟨hj, by rw [Nat.pow_succ] at h2; omega, fun i hi hij => by
        have := h3 (i + 1) (by omega) (by omega)
        rw [Nat.pow_succ] at this
        omega⟩]
      congr 2
theorem dec_pos (n : Int) (w : World) (h0 : 0 ≤ n) (h1 : n ≤ 17592186044416) : Calls Tryz.prog 45 #[.int .i64 n, .int .i64 1] w (StrBe (tx (decDigits n.toNat)) w) := by
  have c := digits_gen n.toNat 1 w (by omega) (by omega)
  rw [show ((n.toNat : Nat) : Int) = n by omega] at c
  refine c.mono ?_
  rintro e w' ⟨k, hk, rfl, hB⟩
  rw [dgs_dec _ _ hk]
  exact ⟨rfl, hB⟩
set_option maxHeartbeats 1000000 in
theorem decimal_any (n : Int) (w : World) (h0 : -17592186044416 ≤ n) (h1 : n ≤ 17592186044416) : Calls Tryz.prog 29 #[.int .i64 n] w (StrBe (tx (itoa n)) w) := by
  by_cases hn : n < 0
  · have t1 : decide (n < 0) = true := decide_eq_true hn
    have hi : itoa n = 45 :: decDigits n.natAbs := by unfold itoa; rw [if_pos hn]
    rw [hi]
    have hl : (decDigits n.natAbs).length ≤ 21 := by have := itoa_length_le n (by omega) (by omega); rw [hi] at this; simp at this; omega
    have c := Lib.hid (dec_pos (-n) w (by omega) (by omega))
    rw [show (-n).toNat = n.natAbs by omega] at c
    have hcat := tx_cat [45] (decDigits n.natAbs) Tryz.prog
    have hcat2 : ∀ w, (Op.stringOp .add { data := #[45] } (tx (decDigits n.natAbs))).run Tryz.prog w = .ok (.string (tx (45 :: decDigits n.natAbs))) w := fun w => hcat w (by simp; omega)
    generalize tx (decDigits n.natAbs) = f at *
    generalize tx (45 :: decDigits n.natAbs) = f2 at *
    have hw1 : IntKind.i64.wrap (-n) = -n := IntWalk.i64_in _ (by omega)
    clear hi hl hn hcat
    go_enter Tryz.func29, Tryz.ntmps29
    go_wp2_with fail
    refine c.out.mono ?_; rintro e W1 ⟨rfl, hB⟩
    have B := Lib.hid hB
    clear hB
    go_wp2_with fail
    go_ret
    exact ⟨rfl, B.out⟩
  · have t1 : decide (n < 0) = false := decide_eq_false hn
    have hi : itoa n = decDigits n.toNat := by unfold itoa; rw [if_neg hn]
    rw [hi]
    have c := Lib.hid (dec_pos n w (by omega) (by omega))
    generalize tx (decDigits n.toNat) = f at *
    clear hi hn
    go_enter Tryz.func29, Tryz.ntmps29
    go_wp2_with fail
    refine c.out.mono ?_; rintro e W1 ⟨rfl, hB⟩
    have B := Lib.hid hB
    clear hB
    go_wp2_with fail
    go_ret
    exact ⟨rfl, B.out⟩
end Go.Proofs.YtdehldcgakdobaaGreatDoor.Lx
