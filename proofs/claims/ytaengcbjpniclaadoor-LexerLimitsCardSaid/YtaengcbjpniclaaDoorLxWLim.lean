/- LexerLimits' walk. -/
import Derived.Test.YtaengcbjpniclaaDoorLxLim
import Derived.Test.YtaengcbjpniclaaDoorLxAwake
namespace Go.Proofs.YtaengcbjpniclaaDoor.Lx
open Go.RowKit Go.Lib Go.Proofs.YtaengcbjpniclaaDoor.Bas Go.Proofs.YtaengcbjpniclaaDoor.Cal
set_option linter.unusedVariables false

theorem tx_addN (x y : List UInt8) (P : Program) (w : World) (h : x.length + y.length ≤ 1000000) : (Op.stringOp .add (tx x) (tx y)).run P w = .ok (.string (tx (x ++ y))) w := by
  rw [← tx_append]
  exact run_string_add_sum w _ _ (by rw [tx_size, tx_size]; omega)
theorem mark_at (m : Int) (h0 : 0 ≤ m) (h1 : m < 5) : ∃ c : UInt8, markB [c] = true ∧ ∀ w, (Instr.index 9 (.string { data := #[59, 58, 44, 40, 41] }) (.int .i64 m)).run Tryd.prog w = .ok (.int .u8 (c.toNat : Int)) w := by
  rcases (show m = 0 ∨ m = 1 ∨ m = 2 ∨ m = 3 ∨ m = 4 by omega) with rfl | rfl | rfl | rfl | rfl
  · exact ⟨59, by decide +kernel, fun w => by simp [go_sem, Tryd.underlying9]; rfl⟩
  · exact ⟨58, by decide +kernel, fun w => by simp [go_sem, Tryd.underlying9]; rfl⟩
  · exact ⟨44, by decide +kernel, fun w => by simp [go_sem, Tryd.underlying9]; rfl⟩
  · exact ⟨40, by decide +kernel, fun w => by simp [go_sem, Tryd.underlying9]; rfl⟩
  · exact ⟨41, by decide +kernel, fun w => by simp [go_sem, Tryd.underlying9]; rfl⟩
/-- A text of n times the byte c. -/
def rep (n : Nat) (c : UInt8) : ByteArray := tx (List.replicate n c)
theorem rep_size (n : Nat) (c : UInt8) : (rep n c).size = n := by unfold rep; rw [tx_size, List.length_replicate]
theorem rep_add (n m : Nat) (c : UInt8) (P : Program) (w : World) (h : n + m ≤ 1000000) : (Op.stringOp .add (rep n c) (rep m c)).run P w = .ok (.string (rep (n + m) c)) w := by
  unfold rep
  rw [tx_addN _ _ P w (by simp; omega), List.replicate_append_replicate]
theorem rep_one (n : Nat) (c : UInt8) (P : Program) (w : World) (h : n ≤ 1000) : (Op.stringOp .add (rep n c) (tx [c])).run P w = .ok (.string (rep (n + 1) c)) w := by
  have := rep_add n 1 c P w (by omega)
  exact this
/-- One byte of a slice as a text. -/
theorem byte_back (w : World) (g : Nat) (c : UInt8) (h : w.cell? ⟨g, 0, none⟩ = some (.int .u8 (c.toNat : Int))) : (convert 27 9 (.slice (some ⟨g, 0, none⟩) 1 1)).run Tryd.prog w = .ok (.string (tx [c])) w :=
  run_convert_bytes_back w 27 9 5 ⟨g, 0, none⟩ 1 [c] Tryd.underlying27 Tryd.underlying5 Tryd.underlying9 (fun j hj => by
    have hj2 : j < 1 := hj
    obtain rfl : j = 0 := by omega
    simpa [Addr.add] using h)
set_option maxRecDepth 8000 in
set_option maxHeartbeats 8000000 in
theorem lim_tokens (b : Int) (w : World) (hE : Env w) (b1 : 0 ≤ b) (b2 : b ≤ 255) : Calls Tryd.prog 6 #[.bool true, .int .u8 b] w (BoolBe true w) := by
  obtain ⟨m, hm⟩ : ∃ m, b % 5 = m := ⟨_, rfl⟩
  have hmt : b.tmod 5 = m := by rw [Int.tmod_eq_emod_of_nonneg b1]; exact hm
  obtain ⟨c, hc, hidx⟩ := mark_at m (by omega) (by omega)
  obtain ⟨n4, hn4⟩ : ∃ n : Nat, n = 4000 := ⟨_, rfl⟩
  obtain ⟨A, hA, hfull⟩ := lim_full c hc n4 hn4
  have c1 := Lib.hid (fun w hE => scan_any (rep n4 c) w hE (by rw [rep_size]; omega))
  rw [show bl (rep n4 c) = List.replicate n4 c from rfl, hfull] at c1
  have hE1 := Lib.hid (hE.alloc (.cells #[.int .u8 (c.toNat : Int)] 5))
  have B1 := Lib.hid ((Below.refl w.heap.size w).alloc (Nat.le_refl _) (.cells #[.int .u8 (c.toNat : Int)] 5))
  have hcell : (w.alloc (.cells #[.int .u8 (c.toNat : Int)] 5)).cell? ⟨w.heap.size, 0, none⟩ = some (.int .u8 (c.toNat : Int)) := by simp
  have hlt : w.heap.size < (w.alloc (.cells #[.int .u8 (c.toNat : Int)] 5)).heap.size := by simp
  clear hE
  have hempty := Lib.hid (show ({ data := #[] } : ByteArray) = rep 0 c from rfl)
  have hsz := Lib.hid (fun n => rep_size n c)
  have c2 := Lib.hid (fun w hE => scan_any (tx (List.replicate n4 c ++ [32] ++ [c])) w hE (by rw [tx_size]; simp; omega))
  rw [show bl (tx (List.replicate n4 c ++ [32] ++ [c])) = List.replicate n4 c ++ [32] ++ [c] from rfl, lim_over c hc n4 hn4] at c2
  have a1 : ∀ w, (Op.stringOp .add (rep 500 c) (rep 500 c)).run Tryd.prog w = .ok (.string (rep 1000 c)) w := fun w => rep_add 500 500 c _ w (by omega)
  have a2 : ∀ w, (Op.stringOp .add (rep 1000 c) (rep 500 c)).run Tryd.prog w = .ok (.string (rep 1500 c)) w := fun w => rep_add 1000 500 c _ w (by omega)
  have a3 : ∀ w, (Op.stringOp .add (rep 1500 c) (rep 500 c)).run Tryd.prog w = .ok (.string (rep 2000 c)) w := fun w => rep_add 1500 500 c _ w (by omega)
  have a4 : ∀ w, (Op.stringOp .add (rep 2000 c) (rep 2000 c)).run Tryd.prog w = .ok (.string (rep n4 c)) w := fun w => by rw [hn4]; exact rep_add 2000 2000 c _ w (by omega)
  obtain ⟨q1, hq1⟩ : ∃ q, tx (List.replicate n4 c ++ [32]) = q := ⟨_, rfl⟩
  obtain ⟨q2, hq2⟩ : ∃ q, tx (List.replicate n4 c ++ [32] ++ [c]) = q := ⟨_, rfl⟩
  have a5 : ∀ w, (Op.stringOp .add (rep n4 c) { data := #[32] }).run Tryd.prog w = .ok (.string q1) w := fun w => by rw [← hq1]; exact tx_addN (List.replicate n4 c) [32] _ w (by simp; omega)
  have a6 : ∀ w, (Op.stringOp .add q1 (tx [c])).run Tryd.prog w = .ok (.string q2) w := fun w => by rw [← hq1, ← hq2]; exact tx_addN _ [c] _ w (by simp; omega)
  rw [hq2] at c2
  have aone := Lib.hid (fun n w hn => rep_one n c Tryd.prog w hn)
  have hs4 := rep_size n4 c
  have hs5 := rep_size 500 c
  have hA4 := Lib.hid hA
  have hn4' := Lib.hid hn4
  have hb := Lib.hid (byte_back _ _ c hcell)
  have hbW := Lib.hid (fun W (hB : Below (w.alloc (.cells #[.int .u8 (c.toNat : Int)] 5)).heap.size (w.alloc (.cells #[.int .u8 (c.toNat : Int)] 5)) W) => byte_back W w.heap.size c (by rw [hB.cell (p := ⟨w.heap.size, 0, none⟩) hlt]; exact hcell))
  have cA := Lib.hid awake_any
  clear hq1 hq2 hfull hA hcell hlt hc hn4
  go_enter Tryd.func6, Tryd.ntmps6
  go_wp2_with fail
  clear hidx hm hmt b1 b2
  have hb' := hb.out
  generalize w.alloc (.cells #[.int .u8 (c.toNat : Int)] 5) = W1 at *
  generalize tx [c] = q0 at *
  go_loop [6] (fun s => ∃ k : Nat, k ≤ 500 ∧ s = .string (rep k c)) (fun s => 500 - strSz s)
  case atStart => exact ⟨0, by omega, by rw [hempty.out]⟩
  case round =>
    obtain ⟨k, hk, rfl⟩ := hrel
    have hk1 := hsz.out k
    by_cases hlt : k < 500
    · have hadd := aone.out k W1 (by omega)
      have u1 : decide ((k : Int) < 500) = true := by simp; omega
      have u2 : decide (k < 500) = true := by simp; omega
      have hk2 := Lib.hid (hsz.out (k + 1))
      go_wp2_with fail
      go_round
      case rel => exact ⟨k + 1, by omega, rfl⟩
      case measure =>
        simp only [strSz]
        have := hk2.out
        simp
        omega
    · obtain rfl : k = 500 := by omega
      go_wp2_with fail
      refine (c1.out _ hE1.out).mono ?_; rintro e W2 ⟨u, rfl, hR, hB⟩
      obtain ⟨p0, c0, hv0, _, _⟩ := hR.at
      have hE2 := Lib.hid (hE1.out.keep hB)
      have B2 := Lib.hid (B1.out.trans (hB.mono B1.out.size))
      have hb2 := hbW.out W2 hB
      have hlen : ((A.length : Int) == 4000) = true := by have := hA4.out; have := hn4'.out; simp; omega
      have hlen' : (A.length == 4000) = true := by have := hA4.out; have := hn4'.out; simp; omega
      subst hv0
      clear hR hB hE1 B1
      go_wp2_with fail
      refine (c2.out _ hE2.out).mono ?_; rintro e W3 ⟨u2, rfl, hR2, hB2⟩
      obtain ⟨p2, c3, hv2, _, _⟩ := hR2.at
      have hE3 := Lib.hid (hE2.out.keep hB2)
      have B3 := Lib.hid (B2.out.trans (hB2.mono B2.out.size))
      subst hv2
      clear hR2 hB2 hE2 B2
      have hle4 : n4 ≤ 4000 := by have := hn4'.out; omega
      go_wp2_with fail
      refine (cA.out _ hE3.out).mono ?_; rintro e W4 ⟨rfl, hB3⟩
      have B4 := Lib.hid (B3.out.trans (hB3.mono B3.out.size))
      clear hB3
      go_wp2_with fail
      go_ret
      exact ⟨rfl, B4.out⟩
end Go.Proofs.YtaengcbjpniclaaDoor.Lx
