/- The reference's digits. -/
import Derived.Test.YtdehldcgakdobaaGreatDoorTxt
import Derived.StillTailTactics
namespace Go.Proofs.YtdehldcgakdobaaGreatDoor.Cal
open Go.RowKit Go.Lib Go.Proofs.YtdehldcgakdobaaGreatDoor.Bas
set_option linter.unusedVariables false

/-- A digit's byte. -/
def dgc (k : Int) : UInt8 := UInt8.ofNat (48 + k.toNat)
theorem dgc_nat (k : Int) (h0 : 0 ≤ k) (h1 : k ≤ 9) : ((dgc k).toNat : Int) = 48 + k := by
  unfold dgc
  have : (UInt8.ofNat (48 + k.toNat)).toNat = (48 + k.toNat) % 256 := by simp
  omega
def StrBe (s : ByteArray) (w : World) (e : Ending) (w' : World) : Prop := e = .returned (.string s) ∧ Below w.heap.size w w'
def strSz (v : Value) : Nat := match v with | .string b => b.size | _ => 0
/-- The last k digits. -/
def dgs (n : Nat) : Nat → List UInt8
  | 0 => []
  | k + 1 => dgc (((n / 10 ^ k : Nat) : Int) % 10) :: dgs n k
theorem dgs_length (n k : Nat) : (dgs n k).length = k := by induction k with | zero => rfl | succ k ih => simp [dgs, ih]
/-- How many digits are written. -/
def Lst (n L k : Nat) : Prop := L ≤ k ∧ n < 10 ^ k ∧ ∀ j, L ≤ j → j < k → 10 ^ j ≤ n
theorem div_pos_iff (n j : Nat) : 0 < n / 10 ^ j ↔ 10 ^ j ≤ n := by
  have h : 0 < 10 ^ j := Nat.pow_pos (by omega)
  rw [Nat.div_pos_iff]
  exact ⟨fun h => h.2, fun g => ⟨h, g⟩⟩
set_option maxHeartbeats 2000000 in
set_option maxRecDepth 4000 in
theorem digits_gen (n L : Nat) (w : World) (hL : L ≤ 4) (hn : n ≤ 17592186044416) : Calls Tryz.prog 45 #[.int .i64 n, .int .i64 L] w fun e w' => ∃ k, Lst n L k ∧ e = .returned (.string (tx (dgs n k))) ∧ Below w.heap.size w w' := by
  have h14 : n < 10 ^ 14 := by
    have e : (10 : Nat) ^ 14 = 100000000000000 := rfl
    omega
  have hn' := Lib.hid h14
  have hdp := Lib.hid (div_pos_iff n)
  clear h14
  go_enter Tryz.func45, Tryz.ntmps45
  go_wp2_with fail
  go_loopw [0, 5] (fun t s wr => ∃ k : Nat, k ≤ 14 ∧ t = .int .i64 ((n / 10 ^ k : Nat) : Int) ∧ s = .string (tx (dgs n k)) ∧ Hid (∀ j, L ≤ j → j < k → 10 ^ j ≤ n) ∧ Hid (Below w.heap.size w wr)) (fun _ s _ => 15 - strSz s)
  case atStart => exact ⟨0, Nat.zero_le _, by simp, rfl, Lib.hid (fun j _ h => by omega), Lib.hid (Below.refl _ _)⟩
  case round =>
    obtain ⟨k, hk, rfl, rfl, hJ, hB⟩ := hrel
    have hsz := tx_size (dgs n k)
    rw [dgs_length] at hsz
    have hq9 : n / 10 ^ k ≤ 17592186044416 := Nat.le_trans (Nat.div_le_self _ _) hn
    have h14 : ¬ (0 < n / 10 ^ 14) := by rw [hdp.out 14]; have := hn'.out; omega
    by_cases hlt : 0 < n / 10 ^ k ∨ k < L
    · have hk13 : k ≤ 13 := by
        by_cases e : k = 14
        · subst e; omega
        · omega
      have hJ2 := Lib.hid (show ∀ j, L ≤ j → j < k + 1 → 10 ^ j ≤ n by
        intro j a b
        by_cases e : j = k
        · subst e; exact (hdp.out j).1 (by omega)
        · exact hJ.out j a (by omega))
      have hq : (n / 10 ^ k : Nat) / 10 = n / 10 ^ (k + 1) := by rw [Nat.div_div_eq_div_mul, Nat.pow_succ]
      have hq' := Lib.hid hq
      have hd : dgs n (k + 1) = dgc (((n / 10 ^ k : Nat) : Int) % 10) :: dgs n k := rfl
      have hd' := Lib.hid hd
      have hsz1 := tx_size (dgs n (k + 1))
      rw [dgs_length] at hsz1
      have hsz1' := Lib.hid hsz1
      clear hq hd hsz1 h14
      generalize n / 10 ^ k = q at *
      have hz1 : (tx [dgc ((q : Int) % 10)]).size = 1 := tx_size _
      have hrun : (convert 39 9 (.slice (some ⟨wr.heap.size, 0, none⟩) 1 1)).run Tryz.prog (wr.alloc (.cells #[.int .u8 (48 + (q : Int) % 10)] 5)) = .ok (.string (tx [dgc ((q : Int) % 10)])) (wr.alloc (.cells #[.int .u8 (48 + (q : Int) % 10)] 5)) :=
        run_convert_bytes_back (wr.alloc (.cells #[.int .u8 (48 + (q : Int) % 10)] 5)) 39 9 5 ⟨wr.heap.size, 0, none⟩ 1 [dgc ((q : Int) % 10)] Tryz.underlying39 Tryz.underlying5 Tryz.underlying9 (fun j hj => by
          have hj2 : j < 1 := hj
          obtain rfl : j = 0 := by omega
          show _ = some (Value.int .u8 ((dgc ((q : Int) % 10)).toNat : Int))
          rw [dgc_nat _ (by omega) (by omega)]; simp [Addr.add])
      have hfin' := Lib.hid (show Below w.heap.size w (wr.alloc (.cells #[.int .u8 (48 + (q : Int) % 10)] 5)) from hB.out.alloc (hB.out.size) _)
      by_cases h0 : 0 < q
      · have g1 : decide (0 < q) = true := by simp; omega
        have g2 : decide ((0 : Int) < (q : Int)) = true := by simp; omega
        clear hlt
        go_wp2
        all_goals
          go_roundw
          case rel => exact ⟨k + 1, by omega, by rw [← hq'.out]; simp, by rw [hd'.out, tx_append]; rfl, hJ2, Lib.hid hfin'.out⟩
          case measure => rw [tx_append]; simp only [strSz, tx_size, List.length_append, dgs_length]; simp; omega
      · obtain rfl : q = 0 := by omega
        have hrun0 : (convert 39 9 (.slice (some ⟨wr.heap.size, 0, none⟩) 1 1)).run Tryz.prog (wr.alloc (.cells #[.int .u8 48] 5)) = .ok (.string (tx [dgc 0])) (wr.alloc (.cells #[.int .u8 48] 5)) := hrun
        have hz0 : (tx [dgc 0]).size = 1 := tx_size _
        have hlt1 : decide ((k : Int) < (L : Int)) = true := by simp; omega
        have hlt2 : decide (k < L) = true := by simp; omega
        clear hlt hrun h0 hz1
        go_wp2
        try any_goals (exfalso; omega; done)
        all_goals
          go_roundw
          case rel => exact ⟨k + 1, by omega, by rw [← hq'.out]; rfl, by rw [hd'.out, tx_append]; rfl, hJ2, Lib.hid hfin'.out⟩
          case measure => rw [tx_append]; simp only [strSz, tx_size, List.length_append, dgs_length]; simp; omega
    · have hq : n / 10 ^ k = 0 := Nat.le_zero.1 (Nat.not_lt.1 fun h => hlt (.inl h))
      have hfin := Lib.hid (show Lst n L k from ⟨Nat.not_lt.1 fun h => hlt (.inr h), by
        by_cases e : 10 ^ k ≤ n
        · have := (hdp.out k).2 e; omega
        · omega, hJ.out⟩)
      rw [hq]
      have hlt1 : decide ((k : Int) < (L : Int)) = false := by simp; omega
      have hlt2 : decide (k < L) = false := by simp; omega
      clear hq hlt h14 hq9 hJ
      go_wp2
      go_ret
      exact ⟨k, hfin.out, rfl, hB.out⟩
end Go.Proofs.YtdehldcgakdobaaGreatDoor.Cal
