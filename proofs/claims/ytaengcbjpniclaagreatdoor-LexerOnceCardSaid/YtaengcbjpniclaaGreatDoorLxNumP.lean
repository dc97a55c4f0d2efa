/- Package lexer: a number at the beginning of a text. -/
import Derived.Test.YtaengcbjpniclaaGreatDoorLxTok
namespace Go.Proofs.YtaengcbjpniclaaGreatDoor.Lx
open Go.RowKit Go.Lib Go.Proofs.YtaengcbjpniclaaGreatDoor.Bas Go.Proofs.YtaengcbjpniclaaGreatDoor.Cal
set_option linter.unusedVariables false

set_option maxHeartbeats 2000000 in
theorem number_none (s : ByteArray) (w : World) (h0 : 0 < s.size) (hs : s.size ≤ 16384) (sg : Bool) (hsg : ((s[0].toNat : Int) == 45) = sg) (hk : spn dgt ((bl s).drop (if sg then 1 else 0)) = 0) :
    Calls Tryz.prog 42 #[.string s] w (TokOut (z0, 0, 5) w) := by
  have c1 := Lib.hid (fun (n : Nat) (w : World) => span_isDigit (s.extract n s.size) w (by rw [ByteArray.size_extract]; omega))
  have hbd := Lib.hid (bl_drop s)
  cases sg with
  | false =>
    have c2 := fun w => span_isDigit s w (by omega)
    rw [show spn dgt (bl s) = 0 from hk] at c2
    have c3 := Lib.hid c2
    have hle : (0 : Int) ≤ (s.size : Int) := by omega
    have e1 : ∀ w, (Instr.slice 9 (.string s) (some (.int .i64 0)) none none).run Tryz.prog w = .ok (.string s) w := fun w => by
      rw [run_slice_string_l w _ s Tryz.underlying9 .i64 0 (by omega) hle, show (0 : Int).toNat = 0 from rfl, ByteArray.extract_zero_size]
    clear c2 c1 hk
    go_enter Tryz.func42, Tryz.ntmps42
    go_wp2_with fail
    refine (c3.out _).mono ?_; rintro e w' ⟨rfl, rfl⟩
    go_wp2_with fail
    exact bodyPost_ret (v := .tuple #[tkV z0, .int .i64 0, .int .i64 5]) (by simp [results, Tryz.results42, go_sem, tkV, z0, tx]) rfl ⟨rfl, (Below.refl _ _).alloc (Nat.le_refl _) _⟩
  | true =>
    have c2 := c1.out 1
    rw [bl_drop s 1, show spn dgt ((bl s).drop 1) = 0 from hk] at c2
    have c3 := Lib.hid c2
    have hle : (1 : Int) ≤ (s.size : Int) := by omega
    have e1 : ∀ w, (Instr.slice 9 (.string s) (some (.int .i64 1)) none none).run Tryz.prog w = .ok (.string (s.extract 1 s.size)) w := fun w => run_slice_string_l w _ s Tryz.underlying9 .i64 1 (by omega) hle
    clear c2 c1 hk
    go_enter Tryz.func42, Tryz.ntmps42
    go_wp2_with fail
    refine (c3.out _).mono ?_; rintro e w' ⟨rfl, rfl⟩
    go_wp2_with fail
    exact bodyPost_ret (v := .tuple #[tkV z0, .int .i64 0, .int .i64 5]) (by simp [results, Tryz.results42, go_sem, tkV, z0, tx]) rfl ⟨rfl, (Below.refl _ _).alloc (Nat.le_refl _) _⟩
/-- What Atoi does at the numeral t. -/
def AtOk (t : ByteArray) (v : Int) : Prop := ∀ w : World, Calls Tryz.prog 54 #[.string t] w fun e w' => e = .returned (.tuple #[.int .i64 v, .nilIface]) ∧ Below w.heap.size w w'
def AtFar (t : ByteArray) : Prop := ∀ w : World, Env w → Calls Tryz.prog 54 #[.string t] w fun e w' => ∃ v N, e = .returned (.tuple #[.int .i64 v, .iface 84 (.pointer (some ⟨N, 0, none⟩))]) ∧ Below w.heap.size w w'
theorem atOk (t : ByteArray) (ht : t.size ≤ 16384) (v : Int) (h : atoiAll (bl t) = .ok v) : AtOk t v := fun w => by
  refine (Tryz.strconv_Atoi_ok t (by omega) v h w).mono ?_
  rintro e w' ⟨rfl, hw⟩
  refine ⟨rfl, ?_⟩
  rcases hw with rfl | ⟨x, rfl⟩
  · exact Below.refl _ _
  · exact Lib.bytesWorld_below _ _ _
theorem atFar (t : ByteArray) (ht : t.size ≤ 16384) (h : atoiAll (bl t) = .range) : AtFar t := fun w hE => by
  obtain ⟨_, _, tp, p, hv⟩ := hE
  refine (Tryz.strconv_Atoi_range_var t (by omega) h tp p w hv).mono ?_
  rintro e w' ⟨N, rfl, _, _, hB⟩
  exact ⟨_, N, rfl, hB⟩
set_option maxHeartbeats 2000000 in
theorem number_zero0 (s : ByteArray) (w : World) (h0 : 0 < s.size) (hs : s.size ≤ 16384) (hsg : ((s[0].toNat : Int) == 45) = false) (k : Nat) (hk : spn dgt ((bl s).drop 0) = k) (hk1 : 1 ≤ k) (hks : k + 0 ≤ s.size) (hz : ((s[0].toNat : Int) == 48) = true) (hb : 1 < 0 + k) :
    Calls Tryz.prog 42 #[.string s] w (TokOut (z0, 0, 5) w) := by
  have c2 := fun w => span_isDigit s w (by omega)
  rw [show spn dgt (bl s) = k from hk] at c2
  have c3 := Lib.hid c2
  have hle : (0 : Int) ≤ (s.size : Int) := by omega
  have e1 : ∀ w, (Instr.slice 9 (.string s) (some (.int .i64 0)) none none).run Tryz.prog w = .ok (.string s) w := fun w => by
    rw [run_slice_string_l w _ s Tryz.underlying9 .i64 0 (by omega) hle, show (0 : Int).toNat = 0 from rfl, ByteArray.extract_zero_size]
  have u1 : ((k : Int) == 0) = false := by simp; omega
  have u1' : (k == 0) = false := by simp; omega
  have u2 : (1 + (k : Int) == 1) = false := by simp; omega
  have u5 : decide (0 < k) = true := by simp; omega
  have u6 : decide ((0 : Int) < (k : Int)) = true := by simp; omega
  have u3 : decide ((1 : Int) < (k : Int)) = true := by simp; omega
  have u3' : decide (1 < k) = true := by simp; omega
  clear c2 hk hb
  go_enter Tryz.func42, Tryz.ntmps42
  go_wp2_with fail
  refine (c3.out _).mono ?_; rintro e w' ⟨rfl, rfl⟩
  go_wp2_with fail
  try any_goals (exfalso; omega; done)
  exact bodyPost_ret (v := .tuple #[tkV z0, .int .i64 0, .int .i64 5]) (by simp [results, Tryz.results42, go_sem, tkV, z0, tx]) rfl ⟨rfl, (Below.refl _ _).alloc (Nat.le_refl _) _⟩
set_option maxHeartbeats 4000000 in
theorem number_val0 (s : ByteArray) (w : World) (h0 : 0 < s.size) (hs : s.size ≤ 16384) (hsg : ((s[0].toNat : Int) == 45) = false) (k : Nat) (hk : spn dgt ((bl s).drop 0) = k) (hk1 : 1 ≤ k) (hks : k + 0 ≤ s.size) (hz : ((s[0].toNat : Int) == 48) = false ∨ 0 + k = 1) (t : ByteArray) (ht : s.extract 0 (0 + k) = t) (v : Int) (hv : -17592186044416 ≤ v ∧ v ≤ 17592186044416) (hA : AtOk t v) :
    Calls Tryz.prog 42 #[.string s] w (TokOut (⟨2, [], v, 0⟩, 0 + k, 0) w) := by
  have c2 := fun w => span_isDigit s w (by omega)
  rw [show spn dgt (bl s) = k from hk] at c2
  have c3 := Lib.hid c2
  have hle : (0 : Int) ≤ (s.size : Int) := by omega
  have e1 : ∀ w, (Instr.slice 9 (.string s) (some (.int .i64 0)) none none).run Tryz.prog w = .ok (.string s) w := fun w => by
    rw [run_slice_string_l w _ s Tryz.underlying9 .i64 0 (by omega) hle, show (0 : Int).toNat = 0 from rfl, ByteArray.extract_zero_size]
  have u1 : ((k : Int) == 0) = false := by simp; omega
  have u1' : (k == 0) = false := by simp; omega
  have u2 : (1 + (k : Int) == 1) = false := by simp; omega
  have u5 : decide (0 < k) = true := by simp; omega
  have u6 : decide ((0 : Int) < (k : Int)) = true := by simp; omega
  have e2 : ∀ w, (Instr.slice 9 (.string s) none (some (.int .i64 ((k : Int)))) none).run Tryz.prog w = .ok (.string t) w := fun w => by
    rw [run_slice_string_h w _ s Tryz.underlying9 .i64 ((k : Int)) (by omega) (by omega), show ((k : Int)).toNat = 0 + k by omega, ht]
  have K0 := Lib.hid (TkAt.new w z0)
  have B0 := Lib.hid ((Below.refl w.heap.size w).alloc (Nat.le_refl _) (.cells #[.int .i64 0, .string { data := #[] }, .int .i64 0, .int .i64 0] 25))
  have cA := Lib.hid hA
  have cI := Lib.hid (fun w => isAmount_any v w)
  rw [decide_eq_true hv] at cI
  clear hA hv
  have hz' : (((s[0].toNat : Int) == 48) = false) ∨ 0 + k = 1 := hz
  clear c2 hk ht
  by_cases hk2 : 1 < 0 + k
  · have hz2 : ((s[0].toNat : Int) == 48) = false := by
      rcases hz' with h | h
      · exact h
      · omega
    have u3 : decide ((1 : Int) < (k : Int)) = true := by simp; omega
    have u3' : decide (1 < k) = true := by simp; omega
    clear hz hz' hk2
    go_enter Tryz.func42, Tryz.ntmps42
    go_wp2_with fail
    refine (c3.out _).mono ?_; rintro e w' ⟨rfl, rfl⟩
    go_wp2_with fail
    try any_goals (exfalso; omega; done)
    refine (cA.out _).mono ?_; rintro e W1 ⟨rfl, hB⟩
    have K1 := Lib.hid (K0.out.keep hB)
    have B1 := Lib.hid (B0.out.trans (hB.mono B0.out.size))
    have B2 := Lib.hid (below_setTk B1.out (Nat.le_refl _) ⟨2, [], v, 0⟩)
    have K2 := K1.out
    have K3 := Lib.hid (K1.out.set ⟨2, [], v, 0⟩)
    clear K0 B0 hB
    obtain ⟨j0, ⟨j1, j2, j3, j4⟩, j5, j6, j7, j8⟩ := K2
    go_wp2_with fail
    refine (cI.out _).mono ?_; rintro e w' ⟨rfl, rfl⟩
    go_wp2_with fail
    have l1 : ((((W1.setCell ⟨w.heap.size, 0, none⟩ (.int .i64 2)).setCell ⟨w.heap.size, 1, none⟩ (.string { data := #[] })).setCell ⟨w.heap.size, 2, none⟩ (.int .i64 v)).setCell ⟨w.heap.size, 3, none⟩ (.int .i64 0)).cell? ⟨w.heap.size, 0, none⟩ = some (.int .i64 2) := K3.out.2.1.1
    have l2 : ((((W1.setCell ⟨w.heap.size, 0, none⟩ (.int .i64 2)).setCell ⟨w.heap.size, 1, none⟩ (.string { data := #[] })).setCell ⟨w.heap.size, 2, none⟩ (.int .i64 v)).setCell ⟨w.heap.size, 3, none⟩ (.int .i64 0)).cell? ⟨w.heap.size, 1, none⟩ = some (.string { data := #[] }) := K3.out.2.1.2.1
    have l3 : ((((W1.setCell ⟨w.heap.size, 0, none⟩ (.int .i64 2)).setCell ⟨w.heap.size, 1, none⟩ (.string { data := #[] })).setCell ⟨w.heap.size, 2, none⟩ (.int .i64 v)).setCell ⟨w.heap.size, 3, none⟩ (.int .i64 0)).cell? ⟨w.heap.size, 2, none⟩ = some (.int .i64 v) := K3.out.2.1.2.2.1
    have l4 : ((((W1.setCell ⟨w.heap.size, 0, none⟩ (.int .i64 2)).setCell ⟨w.heap.size, 1, none⟩ (.string { data := #[] })).setCell ⟨w.heap.size, 2, none⟩ (.int .i64 v)).setCell ⟨w.heap.size, 3, none⟩ (.int .i64 0)).cell? ⟨w.heap.size, 3, none⟩ = some (.int .i64 0) := K3.out.2.1.2.2.2
    have l5 : Below w.heap.size w ((((W1.setCell ⟨w.heap.size, 0, none⟩ (.int .i64 2)).setCell ⟨w.heap.size, 1, none⟩ (.string { data := #[] })).setCell ⟨w.heap.size, 2, none⟩ (.int .i64 v)).setCell ⟨w.heap.size, 3, none⟩ (.int .i64 0)) := B2.out
    clear K1 K3 B1 B2 j0 j1 j2 j3 j4 j5 j6 j7 j8
    generalize (((W1.setCell ⟨w.heap.size, 0, none⟩ (.int .i64 2)).setCell ⟨w.heap.size, 1, none⟩ (.string { data := #[] })).setCell ⟨w.heap.size, 2, none⟩ (.int .i64 v)).setCell ⟨w.heap.size, 3, none⟩ (.int .i64 0) = W9 at *
    exact bodyPost_ret (v := .tuple #[.agg #[.int .i64 2, .string { data := #[] }, .int .i64 v, .int .i64 0], .int .i64 ((k : Int)), .int .i64 0]) (by simp [results, Tryz.results42, go_sem, l1, l2, l3, l4]) rfl ⟨by rw [show ((0 + k : Nat) : Int) = (k : Int) by omega]; rfl, l5⟩
  · have v3 : decide ((1 : Int) < (k : Int)) = false := by simp; omega
    have v3' : decide (1 < k) = false := by simp; omega
    clear hz hz' hk2
    go_enter Tryz.func42, Tryz.ntmps42
    go_wp2_with fail
    refine (c3.out _).mono ?_; rintro e w' ⟨rfl, rfl⟩
    go_wp2_with fail
    try any_goals (exfalso; omega; done)
    refine (cA.out _).mono ?_; rintro e W1 ⟨rfl, hB⟩
    have K1 := Lib.hid (K0.out.keep hB)
    have B1 := Lib.hid (B0.out.trans (hB.mono B0.out.size))
    have B2 := Lib.hid (below_setTk B1.out (Nat.le_refl _) ⟨2, [], v, 0⟩)
    have K2 := K1.out
    have K3 := Lib.hid (K1.out.set ⟨2, [], v, 0⟩)
    clear K0 B0 hB
    obtain ⟨j0, ⟨j1, j2, j3, j4⟩, j5, j6, j7, j8⟩ := K2
    go_wp2_with fail
    refine (cI.out _).mono ?_; rintro e w' ⟨rfl, rfl⟩
    go_wp2_with fail
    have l1 : ((((W1.setCell ⟨w.heap.size, 0, none⟩ (.int .i64 2)).setCell ⟨w.heap.size, 1, none⟩ (.string { data := #[] })).setCell ⟨w.heap.size, 2, none⟩ (.int .i64 v)).setCell ⟨w.heap.size, 3, none⟩ (.int .i64 0)).cell? ⟨w.heap.size, 0, none⟩ = some (.int .i64 2) := K3.out.2.1.1
    have l2 : ((((W1.setCell ⟨w.heap.size, 0, none⟩ (.int .i64 2)).setCell ⟨w.heap.size, 1, none⟩ (.string { data := #[] })).setCell ⟨w.heap.size, 2, none⟩ (.int .i64 v)).setCell ⟨w.heap.size, 3, none⟩ (.int .i64 0)).cell? ⟨w.heap.size, 1, none⟩ = some (.string { data := #[] }) := K3.out.2.1.2.1
    have l3 : ((((W1.setCell ⟨w.heap.size, 0, none⟩ (.int .i64 2)).setCell ⟨w.heap.size, 1, none⟩ (.string { data := #[] })).setCell ⟨w.heap.size, 2, none⟩ (.int .i64 v)).setCell ⟨w.heap.size, 3, none⟩ (.int .i64 0)).cell? ⟨w.heap.size, 2, none⟩ = some (.int .i64 v) := K3.out.2.1.2.2.1
    have l4 : ((((W1.setCell ⟨w.heap.size, 0, none⟩ (.int .i64 2)).setCell ⟨w.heap.size, 1, none⟩ (.string { data := #[] })).setCell ⟨w.heap.size, 2, none⟩ (.int .i64 v)).setCell ⟨w.heap.size, 3, none⟩ (.int .i64 0)).cell? ⟨w.heap.size, 3, none⟩ = some (.int .i64 0) := K3.out.2.1.2.2.2
    have l5 : Below w.heap.size w ((((W1.setCell ⟨w.heap.size, 0, none⟩ (.int .i64 2)).setCell ⟨w.heap.size, 1, none⟩ (.string { data := #[] })).setCell ⟨w.heap.size, 2, none⟩ (.int .i64 v)).setCell ⟨w.heap.size, 3, none⟩ (.int .i64 0)) := B2.out
    clear K1 K3 B1 B2 j0 j1 j2 j3 j4 j5 j6 j7 j8
    generalize (((W1.setCell ⟨w.heap.size, 0, none⟩ (.int .i64 2)).setCell ⟨w.heap.size, 1, none⟩ (.string { data := #[] })).setCell ⟨w.heap.size, 2, none⟩ (.int .i64 v)).setCell ⟨w.heap.size, 3, none⟩ (.int .i64 0) = W9 at *
    exact bodyPost_ret (v := .tuple #[.agg #[.int .i64 2, .string { data := #[] }, .int .i64 v, .int .i64 0], .int .i64 ((k : Int)), .int .i64 0]) (by simp [results, Tryz.results42, go_sem, l1, l2, l3, l4]) rfl ⟨by rw [show ((0 + k : Nat) : Int) = (k : Int) by omega]; rfl, l5⟩
set_option maxHeartbeats 4000000 in
theorem number_big0 (s : ByteArray) (w : World) (h0 : 0 < s.size) (hs : s.size ≤ 16384) (hsg : ((s[0].toNat : Int) == 45) = false) (k : Nat) (hk : spn dgt ((bl s).drop 0) = k) (hk1 : 1 ≤ k) (hks : k + 0 ≤ s.size) (hz : ((s[0].toNat : Int) == 48) = false ∨ 0 + k = 1) (t : ByteArray) (ht : s.extract 0 (0 + k) = t) (v : Int) (hv : ¬ (-17592186044416 ≤ v ∧ v ≤ 17592186044416)) (hA : AtOk t v) :
    Calls Tryz.prog 42 #[.string s] w (TokOut (z0, 0, 1) w) := by
  have c2 := fun w => span_isDigit s w (by omega)
  rw [show spn dgt (bl s) = k from hk] at c2
  have c3 := Lib.hid c2
  have hle : (0 : Int) ≤ (s.size : Int) := by omega
  have e1 : ∀ w, (Instr.slice 9 (.string s) (some (.int .i64 0)) none none).run Tryz.prog w = .ok (.string s) w := fun w => by
    rw [run_slice_string_l w _ s Tryz.underlying9 .i64 0 (by omega) hle, show (0 : Int).toNat = 0 from rfl, ByteArray.extract_zero_size]
  have u1 : ((k : Int) == 0) = false := by simp; omega
  have u1' : (k == 0) = false := by simp; omega
  have u2 : (1 + (k : Int) == 1) = false := by simp; omega
  have u5 : decide (0 < k) = true := by simp; omega
  have u6 : decide ((0 : Int) < (k : Int)) = true := by simp; omega
  have e2 : ∀ w, (Instr.slice 9 (.string s) none (some (.int .i64 ((k : Int)))) none).run Tryz.prog w = .ok (.string t) w := fun w => by
    rw [run_slice_string_h w _ s Tryz.underlying9 .i64 ((k : Int)) (by omega) (by omega), show ((k : Int)).toNat = 0 + k by omega, ht]
  have K0 := Lib.hid (TkAt.new w z0)
  have B0 := Lib.hid ((Below.refl w.heap.size w).alloc (Nat.le_refl _) (.cells #[.int .i64 0, .string { data := #[] }, .int .i64 0, .int .i64 0] 25))
  have cA := Lib.hid hA
  have cI := Lib.hid (fun w => isAmount_any v w)
  rw [decide_eq_false hv] at cI
  clear hA hv
  have hz' : (((s[0].toNat : Int) == 48) = false) ∨ 0 + k = 1 := hz
  clear c2 hk ht
  by_cases hk2 : 1 < 0 + k
  · have hz2 : ((s[0].toNat : Int) == 48) = false := by
      rcases hz' with h | h
      · exact h
      · omega
    have u3 : decide ((1 : Int) < (k : Int)) = true := by simp; omega
    have u3' : decide (1 < k) = true := by simp; omega
    clear hz hz' hk2
    go_enter Tryz.func42, Tryz.ntmps42
    go_wp2_with fail
    refine (c3.out _).mono ?_; rintro e w' ⟨rfl, rfl⟩
    go_wp2_with fail
    try any_goals (exfalso; omega; done)
    refine (cA.out _).mono ?_; rintro e W1 ⟨rfl, hB⟩
    have K1 := Lib.hid (K0.out.keep hB)
    have B1 := Lib.hid (B0.out.trans (hB.mono B0.out.size))
    have B2 := Lib.hid (below_setTk B1.out (Nat.le_refl _) z0)
    have K2 := K1.out
    have K3 := Lib.hid (K1.out.set z0)
    clear K0 B0 hB
    obtain ⟨j0, ⟨j1, j2, j3, j4⟩, j5, j6, j7, j8⟩ := K2
    go_wp2_with fail
    refine (cI.out _).mono ?_; rintro e w' ⟨rfl, rfl⟩
    go_wp2_with fail
    have l1 : ((((W1.setCell ⟨w.heap.size, 0, none⟩ (.int .i64 0)).setCell ⟨w.heap.size, 1, none⟩ (.string { data := #[] })).setCell ⟨w.heap.size, 2, none⟩ (.int .i64 0)).setCell ⟨w.heap.size, 3, none⟩ (.int .i64 0)).cell? ⟨w.heap.size, 0, none⟩ = some (.int .i64 0) := K3.out.2.1.1
    have l2 : ((((W1.setCell ⟨w.heap.size, 0, none⟩ (.int .i64 0)).setCell ⟨w.heap.size, 1, none⟩ (.string { data := #[] })).setCell ⟨w.heap.size, 2, none⟩ (.int .i64 0)).setCell ⟨w.heap.size, 3, none⟩ (.int .i64 0)).cell? ⟨w.heap.size, 1, none⟩ = some (.string { data := #[] }) := K3.out.2.1.2.1
    have l3 : ((((W1.setCell ⟨w.heap.size, 0, none⟩ (.int .i64 0)).setCell ⟨w.heap.size, 1, none⟩ (.string { data := #[] })).setCell ⟨w.heap.size, 2, none⟩ (.int .i64 0)).setCell ⟨w.heap.size, 3, none⟩ (.int .i64 0)).cell? ⟨w.heap.size, 2, none⟩ = some (.int .i64 0) := K3.out.2.1.2.2.1
    have l4 : ((((W1.setCell ⟨w.heap.size, 0, none⟩ (.int .i64 0)).setCell ⟨w.heap.size, 1, none⟩ (.string { data := #[] })).setCell ⟨w.heap.size, 2, none⟩ (.int .i64 0)).setCell ⟨w.heap.size, 3, none⟩ (.int .i64 0)).cell? ⟨w.heap.size, 3, none⟩ = some (.int .i64 0) := K3.out.2.1.2.2.2
    have l5 : Below w.heap.size w ((((W1.setCell ⟨w.heap.size, 0, none⟩ (.int .i64 0)).setCell ⟨w.heap.size, 1, none⟩ (.string { data := #[] })).setCell ⟨w.heap.size, 2, none⟩ (.int .i64 0)).setCell ⟨w.heap.size, 3, none⟩ (.int .i64 0)) := B2.out
    clear K1 K3 B1 B2 j0 j1 j2 j3 j4 j5 j6 j7 j8
    generalize (((W1.setCell ⟨w.heap.size, 0, none⟩ (.int .i64 0)).setCell ⟨w.heap.size, 1, none⟩ (.string { data := #[] })).setCell ⟨w.heap.size, 2, none⟩ (.int .i64 0)).setCell ⟨w.heap.size, 3, none⟩ (.int .i64 0) = W9 at *
    exact bodyPost_ret (v := .tuple #[.agg #[.int .i64 0, .string { data := #[] }, .int .i64 0, .int .i64 0], .int .i64 0, .int .i64 1]) (by simp [results, Tryz.results42, go_sem, l1, l2, l3, l4]) rfl ⟨rfl, l5⟩
  · have v3 : decide ((1 : Int) < (k : Int)) = false := by simp; omega
    have v3' : decide (1 < k) = false := by simp; omega
    clear hz hz' hk2
    go_enter Tryz.func42, Tryz.ntmps42
    go_wp2_with fail
    refine (c3.out _).mono ?_; rintro e w' ⟨rfl, rfl⟩
    go_wp2_with fail
    try any_goals (exfalso; omega; done)
    refine (cA.out _).mono ?_; rintro e W1 ⟨rfl, hB⟩
    have K1 := Lib.hid (K0.out.keep hB)
    have B1 := Lib.hid (B0.out.trans (hB.mono B0.out.size))
    have B2 := Lib.hid (below_setTk B1.out (Nat.le_refl _) z0)
    have K2 := K1.out
    have K3 := Lib.hid (K1.out.set z0)
    clear K0 B0 hB
    obtain ⟨j0, ⟨j1, j2, j3, j4⟩, j5, j6, j7, j8⟩ := K2
    go_wp2_with fail
    refine (cI.out _).mono ?_; rintro e w' ⟨rfl, rfl⟩
    go_wp2_with fail
    have l1 : ((((W1.setCell ⟨w.heap.size, 0, none⟩ (.int .i64 0)).setCell ⟨w.heap.size, 1, none⟩ (.string { data := #[] })).setCell ⟨w.heap.size, 2, none⟩ (.int .i64 0)).setCell ⟨w.heap.size, 3, none⟩ (.int .i64 0)).cell? ⟨w.heap.size, 0, none⟩ = some (.int .i64 0) := K3.out.2.1.1
    have l2 : ((((W1.setCell ⟨w.heap.size, 0, none⟩ (.int .i64 0)).setCell ⟨w.heap.size, 1, none⟩ (.string { data := #[] })).setCell ⟨w.heap.size, 2, none⟩ (.int .i64 0)).setCell ⟨w.heap.size, 3, none⟩ (.int .i64 0)).cell? ⟨w.heap.size, 1, none⟩ = some (.string { data := #[] }) := K3.out.2.1.2.1
    have l3 : ((((W1.setCell ⟨w.heap.size, 0, none⟩ (.int .i64 0)).setCell ⟨w.heap.size, 1, none⟩ (.string { data := #[] })).setCell ⟨w.heap.size, 2, none⟩ (.int .i64 0)).setCell ⟨w.heap.size, 3, none⟩ (.int .i64 0)).cell? ⟨w.heap.size, 2, none⟩ = some (.int .i64 0) := K3.out.2.1.2.2.1
    have l4 : ((((W1.setCell ⟨w.heap.size, 0, none⟩ (.int .i64 0)).setCell ⟨w.heap.size, 1, none⟩ (.string { data := #[] })).setCell ⟨w.heap.size, 2, none⟩ (.int .i64 0)).setCell ⟨w.heap.size, 3, none⟩ (.int .i64 0)).cell? ⟨w.heap.size, 3, none⟩ = some (.int .i64 0) := K3.out.2.1.2.2.2
    have l5 : Below w.heap.size w ((((W1.setCell ⟨w.heap.size, 0, none⟩ (.int .i64 0)).setCell ⟨w.heap.size, 1, none⟩ (.string { data := #[] })).setCell ⟨w.heap.size, 2, none⟩ (.int .i64 0)).setCell ⟨w.heap.size, 3, none⟩ (.int .i64 0)) := B2.out
    clear K1 K3 B1 B2 j0 j1 j2 j3 j4 j5 j6 j7 j8
    generalize (((W1.setCell ⟨w.heap.size, 0, none⟩ (.int .i64 0)).setCell ⟨w.heap.size, 1, none⟩ (.string { data := #[] })).setCell ⟨w.heap.size, 2, none⟩ (.int .i64 0)).setCell ⟨w.heap.size, 3, none⟩ (.int .i64 0) = W9 at *
    exact bodyPost_ret (v := .tuple #[.agg #[.int .i64 0, .string { data := #[] }, .int .i64 0, .int .i64 0], .int .i64 0, .int .i64 1]) (by simp [results, Tryz.results42, go_sem, l1, l2, l3, l4]) rfl ⟨rfl, l5⟩
set_option maxHeartbeats 4000000 in
theorem number_far0 (s : ByteArray) (w : World) (h0 : 0 < s.size) (hs : s.size ≤ 16384) (hsg : ((s[0].toNat : Int) == 45) = false) (k : Nat) (hk : spn dgt ((bl s).drop 0) = k) (hk1 : 1 ≤ k) (hks : k + 0 ≤ s.size) (hz : ((s[0].toNat : Int) == 48) = false ∨ 0 + k = 1) (t : ByteArray) (ht : s.extract 0 (0 + k) = t) (hE : Env w) (hA : AtFar t) :
    Calls Tryz.prog 42 #[.string s] w (TokOut (z0, 0, 1) w) := by
  have c2 := fun w => span_isDigit s w (by omega)
  rw [show spn dgt (bl s) = k from hk] at c2
  have c3 := Lib.hid c2
  have hle : (0 : Int) ≤ (s.size : Int) := by omega
  have e1 : ∀ w, (Instr.slice 9 (.string s) (some (.int .i64 0)) none none).run Tryz.prog w = .ok (.string s) w := fun w => by
    rw [run_slice_string_l w _ s Tryz.underlying9 .i64 0 (by omega) hle, show (0 : Int).toNat = 0 from rfl, ByteArray.extract_zero_size]
  have u1 : ((k : Int) == 0) = false := by simp; omega
  have u1' : (k == 0) = false := by simp; omega
  have u2 : (1 + (k : Int) == 1) = false := by simp; omega
  have u5 : decide (0 < k) = true := by simp; omega
  have u6 : decide ((0 : Int) < (k : Int)) = true := by simp; omega
  have e2 : ∀ w, (Instr.slice 9 (.string s) none (some (.int .i64 ((k : Int)))) none).run Tryz.prog w = .ok (.string t) w := fun w => by
    rw [run_slice_string_h w _ s Tryz.underlying9 .i64 ((k : Int)) (by omega) (by omega), show ((k : Int)).toNat = 0 + k by omega, ht]
  have K0 := Lib.hid (TkAt.new w z0)
  have B0 := Lib.hid ((Below.refl w.heap.size w).alloc (Nat.le_refl _) (.cells #[.int .i64 0, .string { data := #[] }, .int .i64 0, .int .i64 0] 25))
  have cA := Lib.hid (hA _ (hE.alloc (.cells #[.int .i64 0, .string { data := #[] }, .int .i64 0, .int .i64 0] 25)))
  clear hA
  have hz' : (((s[0].toNat : Int) == 48) = false) ∨ 0 + k = 1 := hz
  clear c2 hk ht
  by_cases hk2 : 1 < 0 + k
  · have hz2 : ((s[0].toNat : Int) == 48) = false := by
      rcases hz' with h | h
      · exact h
      · omega
    have u3 : decide ((1 : Int) < (k : Int)) = true := by simp; omega
    have u3' : decide (1 < k) = true := by simp; omega
    clear hz hz' hk2
    go_enter Tryz.func42, Tryz.ntmps42
    go_wp2_with fail
    refine (c3.out _).mono ?_; rintro e w' ⟨rfl, rfl⟩
    go_wp2_with fail
    try any_goals (exfalso; omega; done)
    refine cA.out.mono ?_; rintro e W1 ⟨v, N, rfl, hB⟩
    have K1 := Lib.hid (K0.out.keep hB)
    have B1 := Lib.hid (B0.out.trans (hB.mono B0.out.size))
    have B2 := Lib.hid (below_setTk B1.out (Nat.le_refl _) z0)
    have K2 := K1.out
    have K3 := Lib.hid (K1.out.set z0)
    clear K0 B0 hB
    obtain ⟨j0, ⟨j1, j2, j3, j4⟩, j5, j6, j7, j8⟩ := K2
    go_wp2_with fail
    have l1 : ((((W1.setCell ⟨w.heap.size, 0, none⟩ (.int .i64 0)).setCell ⟨w.heap.size, 1, none⟩ (.string { data := #[] })).setCell ⟨w.heap.size, 2, none⟩ (.int .i64 0)).setCell ⟨w.heap.size, 3, none⟩ (.int .i64 0)).cell? ⟨w.heap.size, 0, none⟩ = some (.int .i64 0) := K3.out.2.1.1
    have l2 : ((((W1.setCell ⟨w.heap.size, 0, none⟩ (.int .i64 0)).setCell ⟨w.heap.size, 1, none⟩ (.string { data := #[] })).setCell ⟨w.heap.size, 2, none⟩ (.int .i64 0)).setCell ⟨w.heap.size, 3, none⟩ (.int .i64 0)).cell? ⟨w.heap.size, 1, none⟩ = some (.string { data := #[] }) := K3.out.2.1.2.1
    have l3 : ((((W1.setCell ⟨w.heap.size, 0, none⟩ (.int .i64 0)).setCell ⟨w.heap.size, 1, none⟩ (.string { data := #[] })).setCell ⟨w.heap.size, 2, none⟩ (.int .i64 0)).setCell ⟨w.heap.size, 3, none⟩ (.int .i64 0)).cell? ⟨w.heap.size, 2, none⟩ = some (.int .i64 0) := K3.out.2.1.2.2.1
    have l4 : ((((W1.setCell ⟨w.heap.size, 0, none⟩ (.int .i64 0)).setCell ⟨w.heap.size, 1, none⟩ (.string { data := #[] })).setCell ⟨w.heap.size, 2, none⟩ (.int .i64 0)).setCell ⟨w.heap.size, 3, none⟩ (.int .i64 0)).cell? ⟨w.heap.size, 3, none⟩ = some (.int .i64 0) := K3.out.2.1.2.2.2
    have l5 : Below w.heap.size w ((((W1.setCell ⟨w.heap.size, 0, none⟩ (.int .i64 0)).setCell ⟨w.heap.size, 1, none⟩ (.string { data := #[] })).setCell ⟨w.heap.size, 2, none⟩ (.int .i64 0)).setCell ⟨w.heap.size, 3, none⟩ (.int .i64 0)) := B2.out
    clear K1 K3 B1 B2 j0 j1 j2 j3 j4 j5 j6 j7 j8
    generalize (((W1.setCell ⟨w.heap.size, 0, none⟩ (.int .i64 0)).setCell ⟨w.heap.size, 1, none⟩ (.string { data := #[] })).setCell ⟨w.heap.size, 2, none⟩ (.int .i64 0)).setCell ⟨w.heap.size, 3, none⟩ (.int .i64 0) = W9 at *
    exact bodyPost_ret (v := .tuple #[.agg #[.int .i64 0, .string { data := #[] }, .int .i64 0, .int .i64 0], .int .i64 0, .int .i64 1]) (by simp [results, Tryz.results42, go_sem, l1, l2, l3, l4]) rfl ⟨rfl, l5⟩
  · have v3 : decide ((1 : Int) < (k : Int)) = false := by simp; omega
    have v3' : decide (1 < k) = false := by simp; omega
    clear hz hz' hk2
    go_enter Tryz.func42, Tryz.ntmps42
    go_wp2_with fail
    refine (c3.out _).mono ?_; rintro e w' ⟨rfl, rfl⟩
    go_wp2_with fail
    try any_goals (exfalso; omega; done)
    refine cA.out.mono ?_; rintro e W1 ⟨v, N, rfl, hB⟩
    have K1 := Lib.hid (K0.out.keep hB)
    have B1 := Lib.hid (B0.out.trans (hB.mono B0.out.size))
    have B2 := Lib.hid (below_setTk B1.out (Nat.le_refl _) z0)
    have K2 := K1.out
    have K3 := Lib.hid (K1.out.set z0)
    clear K0 B0 hB
    obtain ⟨j0, ⟨j1, j2, j3, j4⟩, j5, j6, j7, j8⟩ := K2
    go_wp2_with fail
    have l1 : ((((W1.setCell ⟨w.heap.size, 0, none⟩ (.int .i64 0)).setCell ⟨w.heap.size, 1, none⟩ (.string { data := #[] })).setCell ⟨w.heap.size, 2, none⟩ (.int .i64 0)).setCell ⟨w.heap.size, 3, none⟩ (.int .i64 0)).cell? ⟨w.heap.size, 0, none⟩ = some (.int .i64 0) := K3.out.2.1.1
    have l2 : ((((W1.setCell ⟨w.heap.size, 0, none⟩ (.int .i64 0)).setCell ⟨w.heap.size, 1, none⟩ (.string { data := #[] })).setCell ⟨w.heap.size, 2, none⟩ (.int .i64 0)).setCell ⟨w.heap.size, 3, none⟩ (.int .i64 0)).cell? ⟨w.heap.size, 1, none⟩ = some (.string { data := #[] }) := K3.out.2.1.2.1
    have l3 : ((((W1.setCell ⟨w.heap.size, 0, none⟩ (.int .i64 0)).setCell ⟨w.heap.size, 1, none⟩ (.string { data := #[] })).setCell ⟨w.heap.size, 2, none⟩ (.int .i64 0)).setCell ⟨w.heap.size, 3, none⟩ (.int .i64 0)).cell? ⟨w.heap.size, 2, none⟩ = some (.int .i64 0) := K3.out.2.1.2.2.1
    have l4 : ((((W1.setCell ⟨w.heap.size, 0, none⟩ (.int .i64 0)).setCell ⟨w.heap.size, 1, none⟩ (.string { data := #[] })).setCell ⟨w.heap.size, 2, none⟩ (.int .i64 0)).setCell ⟨w.heap.size, 3, none⟩ (.int .i64 0)).cell? ⟨w.heap.size, 3, none⟩ = some (.int .i64 0) := K3.out.2.1.2.2.2
    have l5 : Below w.heap.size w ((((W1.setCell ⟨w.heap.size, 0, none⟩ (.int .i64 0)).setCell ⟨w.heap.size, 1, none⟩ (.string { data := #[] })).setCell ⟨w.heap.size, 2, none⟩ (.int .i64 0)).setCell ⟨w.heap.size, 3, none⟩ (.int .i64 0)) := B2.out
    clear K1 K3 B1 B2 j0 j1 j2 j3 j4 j5 j6 j7 j8
    generalize (((W1.setCell ⟨w.heap.size, 0, none⟩ (.int .i64 0)).setCell ⟨w.heap.size, 1, none⟩ (.string { data := #[] })).setCell ⟨w.heap.size, 2, none⟩ (.int .i64 0)).setCell ⟨w.heap.size, 3, none⟩ (.int .i64 0) = W9 at *
    exact bodyPost_ret (v := .tuple #[.agg #[.int .i64 0, .string { data := #[] }, .int .i64 0, .int .i64 0], .int .i64 0, .int .i64 1]) (by simp [results, Tryz.results42, go_sem, l1, l2, l3, l4]) rfl ⟨rfl, l5⟩
set_option maxHeartbeats 2000000 in
theorem number_zero1 (s : ByteArray) (w : World) (h0 : 1 < s.size) (hs : s.size ≤ 16384) (hsg : ((s[0].toNat : Int) == 45) = true) (k : Nat) (hk : spn dgt ((bl s).drop 1) = k) (hk1 : 1 ≤ k) (hks : k + 1 ≤ s.size) (hz : ((s[1].toNat : Int) == 48) = true) (hb : 1 < 1 + k) :
    Calls Tryz.prog 42 #[.string s] w (TokOut (z0, 0, 5) w) := by
  have c2 := fun w => span_isDigit (s.extract 1 s.size) w (by rw [ByteArray.size_extract]; omega)
  rw [bl_drop s 1, hk] at c2
  have c3 := Lib.hid c2
  have hle : (1 : Int) ≤ (s.size : Int) := by omega
  have e1 : ∀ w, (Instr.slice 9 (.string s) (some (.int .i64 1)) none none).run Tryz.prog w = .ok (.string (s.extract 1 s.size)) w := fun w => run_slice_string_l w _ s Tryz.underlying9 .i64 1 (by omega) hle
  have u1 : ((k : Int) == 0) = false := by simp; omega
  have u1' : (k == 0) = false := by simp; omega
  have u2 : (1 + (k : Int) == 1) = false := by simp; omega
  have u5 : decide (0 < k) = true := by simp; omega
  have u6 : decide ((0 : Int) < (k : Int)) = true := by simp; omega
  have u3 : decide ((1 : Int) < 1 + (k : Int)) = true := by simp; omega
  have u3' : decide (1 < 1 + k) = true := by simp; omega
  clear c2 hk hb
  go_enter Tryz.func42, Tryz.ntmps42
  go_wp2_with fail
  refine (c3.out _).mono ?_; rintro e w' ⟨rfl, rfl⟩
  go_wp2_with fail
  try any_goals (exfalso; omega; done)
  exact bodyPost_ret (v := .tuple #[tkV z0, .int .i64 0, .int .i64 5]) (by simp [results, Tryz.results42, go_sem, tkV, z0, tx]) rfl ⟨rfl, (Below.refl _ _).alloc (Nat.le_refl _) _⟩
set_option maxHeartbeats 4000000 in
theorem number_val1 (s : ByteArray) (w : World) (h0 : 1 < s.size) (hs : s.size ≤ 16384) (hsg : ((s[0].toNat : Int) == 45) = true) (k : Nat) (hk : spn dgt ((bl s).drop 1) = k) (hk1 : 1 ≤ k) (hks : k + 1 ≤ s.size) (hz : ((s[1].toNat : Int) == 48) = false ∨ 1 + k = 1) (t : ByteArray) (ht : s.extract 0 (1 + k) = t) (v : Int) (hv : -17592186044416 ≤ v ∧ v ≤ 17592186044416) (hA : AtOk t v) :
    Calls Tryz.prog 42 #[.string s] w (TokOut (⟨2, [], v, 0⟩, 1 + k, 0) w) := by
  have c2 := fun w => span_isDigit (s.extract 1 s.size) w (by rw [ByteArray.size_extract]; omega)
  rw [bl_drop s 1, hk] at c2
  have c3 := Lib.hid c2
  have hle : (1 : Int) ≤ (s.size : Int) := by omega
  have e1 : ∀ w, (Instr.slice 9 (.string s) (some (.int .i64 1)) none none).run Tryz.prog w = .ok (.string (s.extract 1 s.size)) w := fun w => run_slice_string_l w _ s Tryz.underlying9 .i64 1 (by omega) hle
  have u1 : ((k : Int) == 0) = false := by simp; omega
  have u1' : (k == 0) = false := by simp; omega
  have u2 : (1 + (k : Int) == 1) = false := by simp; omega
  have u5 : decide (0 < k) = true := by simp; omega
  have u6 : decide ((0 : Int) < (k : Int)) = true := by simp; omega
  have e2 : ∀ w, (Instr.slice 9 (.string s) none (some (.int .i64 (1 + (k : Int)))) none).run Tryz.prog w = .ok (.string t) w := fun w => by
    rw [run_slice_string_h w _ s Tryz.underlying9 .i64 (1 + (k : Int)) (by omega) (by omega), show (1 + (k : Int)).toNat = 1 + k by omega, ht]
  have K0 := Lib.hid (TkAt.new w z0)
  have B0 := Lib.hid ((Below.refl w.heap.size w).alloc (Nat.le_refl _) (.cells #[.int .i64 0, .string { data := #[] }, .int .i64 0, .int .i64 0] 25))
  have cA := Lib.hid hA
  have cI := Lib.hid (fun w => isAmount_any v w)
  rw [decide_eq_true hv] at cI
  clear hA hv
  have hz' : (((s[1].toNat : Int) == 48) = false) ∨ 1 + k = 1 := hz
  clear c2 hk ht
  by_cases hk2 : 1 < 1 + k
  · have hz2 : ((s[1].toNat : Int) == 48) = false := by
      rcases hz' with h | h
      · exact h
      · omega
    have u3 : decide ((1 : Int) < 1 + (k : Int)) = true := by simp; omega
    have u3' : decide (1 < 1 + k) = true := by simp; omega
    clear hz hz' hk2
    go_enter Tryz.func42, Tryz.ntmps42
    go_wp2_with fail
    refine (c3.out _).mono ?_; rintro e w' ⟨rfl, rfl⟩
    go_wp2_with fail
    try any_goals (exfalso; omega; done)
    refine (cA.out _).mono ?_; rintro e W1 ⟨rfl, hB⟩
    have K1 := Lib.hid (K0.out.keep hB)
    have B1 := Lib.hid (B0.out.trans (hB.mono B0.out.size))
    have B2 := Lib.hid (below_setTk B1.out (Nat.le_refl _) ⟨2, [], v, 0⟩)
    have K2 := K1.out
    have K3 := Lib.hid (K1.out.set ⟨2, [], v, 0⟩)
    clear K0 B0 hB
    obtain ⟨j0, ⟨j1, j2, j3, j4⟩, j5, j6, j7, j8⟩ := K2
    go_wp2_with fail
    refine (cI.out _).mono ?_; rintro e w' ⟨rfl, rfl⟩
    go_wp2_with fail
    have l1 : ((((W1.setCell ⟨w.heap.size, 0, none⟩ (.int .i64 2)).setCell ⟨w.heap.size, 1, none⟩ (.string { data := #[] })).setCell ⟨w.heap.size, 2, none⟩ (.int .i64 v)).setCell ⟨w.heap.size, 3, none⟩ (.int .i64 0)).cell? ⟨w.heap.size, 0, none⟩ = some (.int .i64 2) := K3.out.2.1.1
    have l2 : ((((W1.setCell ⟨w.heap.size, 0, none⟩ (.int .i64 2)).setCell ⟨w.heap.size, 1, none⟩ (.string { data := #[] })).setCell ⟨w.heap.size, 2, none⟩ (.int .i64 v)).setCell ⟨w.heap.size, 3, none⟩ (.int .i64 0)).cell? ⟨w.heap.size, 1, none⟩ = some (.string { data := #[] }) := K3.out.2.1.2.1
    have l3 : ((((W1.setCell ⟨w.heap.size, 0, none⟩ (.int .i64 2)).setCell ⟨w.heap.size, 1, none⟩ (.string { data := #[] })).setCell ⟨w.heap.size, 2, none⟩ (.int .i64 v)).setCell ⟨w.heap.size, 3, none⟩ (.int .i64 0)).cell? ⟨w.heap.size, 2, none⟩ = some (.int .i64 v) := K3.out.2.1.2.2.1
    have l4 : ((((W1.setCell ⟨w.heap.size, 0, none⟩ (.int .i64 2)).setCell ⟨w.heap.size, 1, none⟩ (.string { data := #[] })).setCell ⟨w.heap.size, 2, none⟩ (.int .i64 v)).setCell ⟨w.heap.size, 3, none⟩ (.int .i64 0)).cell? ⟨w.heap.size, 3, none⟩ = some (.int .i64 0) := K3.out.2.1.2.2.2
    have l5 : Below w.heap.size w ((((W1.setCell ⟨w.heap.size, 0, none⟩ (.int .i64 2)).setCell ⟨w.heap.size, 1, none⟩ (.string { data := #[] })).setCell ⟨w.heap.size, 2, none⟩ (.int .i64 v)).setCell ⟨w.heap.size, 3, none⟩ (.int .i64 0)) := B2.out
    clear K1 K3 B1 B2 j0 j1 j2 j3 j4 j5 j6 j7 j8
    generalize (((W1.setCell ⟨w.heap.size, 0, none⟩ (.int .i64 2)).setCell ⟨w.heap.size, 1, none⟩ (.string { data := #[] })).setCell ⟨w.heap.size, 2, none⟩ (.int .i64 v)).setCell ⟨w.heap.size, 3, none⟩ (.int .i64 0) = W9 at *
    exact bodyPost_ret (v := .tuple #[.agg #[.int .i64 2, .string { data := #[] }, .int .i64 v, .int .i64 0], .int .i64 (1 + (k : Int)), .int .i64 0]) (by simp [results, Tryz.results42, go_sem, l1, l2, l3, l4]) rfl ⟨by rw [show ((1 + k : Nat) : Int) = 1 + (k : Int) by omega]; rfl, l5⟩
  · exfalso; omega
set_option maxHeartbeats 4000000 in
theorem number_big1 (s : ByteArray) (w : World) (h0 : 1 < s.size) (hs : s.size ≤ 16384) (hsg : ((s[0].toNat : Int) == 45) = true) (k : Nat) (hk : spn dgt ((bl s).drop 1) = k) (hk1 : 1 ≤ k) (hks : k + 1 ≤ s.size) (hz : ((s[1].toNat : Int) == 48) = false ∨ 1 + k = 1) (t : ByteArray) (ht : s.extract 0 (1 + k) = t) (v : Int) (hv : ¬ (-17592186044416 ≤ v ∧ v ≤ 17592186044416)) (hA : AtOk t v) :
    Calls Tryz.prog 42 #[.string s] w (TokOut (z0, 0, 1) w) := by
  have c2 := fun w => span_isDigit (s.extract 1 s.size) w (by rw [ByteArray.size_extract]; omega)
  rw [bl_drop s 1, hk] at c2
  have c3 := Lib.hid c2
  have hle : (1 : Int) ≤ (s.size : Int) := by omega
  have e1 : ∀ w, (Instr.slice 9 (.string s) (some (.int .i64 1)) none none).run Tryz.prog w = .ok (.string (s.extract 1 s.size)) w := fun w => run_slice_string_l w _ s Tryz.underlying9 .i64 1 (by omega) hle
  have u1 : ((k : Int) == 0) = false := by simp; omega
  have u1' : (k == 0) = false := by simp; omega
  have u2 : (1 + (k : Int) == 1) = false := by simp; omega
  have u5 : decide (0 < k) = true := by simp; omega
  have u6 : decide ((0 : Int) < (k : Int)) = true := by simp; omega
  have e2 : ∀ w, (Instr.slice 9 (.string s) none (some (.int .i64 (1 + (k : Int)))) none).run Tryz.prog w = .ok (.string t) w := fun w => by
    rw [run_slice_string_h w _ s Tryz.underlying9 .i64 (1 + (k : Int)) (by omega) (by omega), show (1 + (k : Int)).toNat = 1 + k by omega, ht]
  have K0 := Lib.hid (TkAt.new w z0)
  have B0 := Lib.hid ((Below.refl w.heap.size w).alloc (Nat.le_refl _) (.cells #[.int .i64 0, .string { data := #[] }, .int .i64 0, .int .i64 0] 25))
  have cA := Lib.hid hA
  have cI := Lib.hid (fun w => isAmount_any v w)
  rw [decide_eq_false hv] at cI
  clear hA hv
  have hz' : (((s[1].toNat : Int) == 48) = false) ∨ 1 + k = 1 := hz
  clear c2 hk ht
  by_cases hk2 : 1 < 1 + k
  · have hz2 : ((s[1].toNat : Int) == 48) = false := by
      rcases hz' with h | h
      · exact h
      · omega
    have u3 : decide ((1 : Int) < 1 + (k : Int)) = true := by simp; omega
    have u3' : decide (1 < 1 + k) = true := by simp; omega
    clear hz hz' hk2
    go_enter Tryz.func42, Tryz.ntmps42
    go_wp2_with fail
    refine (c3.out _).mono ?_; rintro e w' ⟨rfl, rfl⟩
    go_wp2_with fail
    try any_goals (exfalso; omega; done)
    refine (cA.out _).mono ?_; rintro e W1 ⟨rfl, hB⟩
    have K1 := Lib.hid (K0.out.keep hB)
    have B1 := Lib.hid (B0.out.trans (hB.mono B0.out.size))
    have B2 := Lib.hid (below_setTk B1.out (Nat.le_refl _) z0)
    have K2 := K1.out
    have K3 := Lib.hid (K1.out.set z0)
    clear K0 B0 hB
    obtain ⟨j0, ⟨j1, j2, j3, j4⟩, j5, j6, j7, j8⟩ := K2
    go_wp2_with fail
    refine (cI.out _).mono ?_; rintro e w' ⟨rfl, rfl⟩
    go_wp2_with fail
    have l1 : ((((W1.setCell ⟨w.heap.size, 0, none⟩ (.int .i64 0)).setCell ⟨w.heap.size, 1, none⟩ (.string { data := #[] })).setCell ⟨w.heap.size, 2, none⟩ (.int .i64 0)).setCell ⟨w.heap.size, 3, none⟩ (.int .i64 0)).cell? ⟨w.heap.size, 0, none⟩ = some (.int .i64 0) := K3.out.2.1.1
    have l2 : ((((W1.setCell ⟨w.heap.size, 0, none⟩ (.int .i64 0)).setCell ⟨w.heap.size, 1, none⟩ (.string { data := #[] })).setCell ⟨w.heap.size, 2, none⟩ (.int .i64 0)).setCell ⟨w.heap.size, 3, none⟩ (.int .i64 0)).cell? ⟨w.heap.size, 1, none⟩ = some (.string { data := #[] }) := K3.out.2.1.2.1
    have l3 : ((((W1.setCell ⟨w.heap.size, 0, none⟩ (.int .i64 0)).setCell ⟨w.heap.size, 1, none⟩ (.string { data := #[] })).setCell ⟨w.heap.size, 2, none⟩ (.int .i64 0)).setCell ⟨w.heap.size, 3, none⟩ (.int .i64 0)).cell? ⟨w.heap.size, 2, none⟩ = some (.int .i64 0) := K3.out.2.1.2.2.1
    have l4 : ((((W1.setCell ⟨w.heap.size, 0, none⟩ (.int .i64 0)).setCell ⟨w.heap.size, 1, none⟩ (.string { data := #[] })).setCell ⟨w.heap.size, 2, none⟩ (.int .i64 0)).setCell ⟨w.heap.size, 3, none⟩ (.int .i64 0)).cell? ⟨w.heap.size, 3, none⟩ = some (.int .i64 0) := K3.out.2.1.2.2.2
    have l5 : Below w.heap.size w ((((W1.setCell ⟨w.heap.size, 0, none⟩ (.int .i64 0)).setCell ⟨w.heap.size, 1, none⟩ (.string { data := #[] })).setCell ⟨w.heap.size, 2, none⟩ (.int .i64 0)).setCell ⟨w.heap.size, 3, none⟩ (.int .i64 0)) := B2.out
    clear K1 K3 B1 B2 j0 j1 j2 j3 j4 j5 j6 j7 j8
    generalize (((W1.setCell ⟨w.heap.size, 0, none⟩ (.int .i64 0)).setCell ⟨w.heap.size, 1, none⟩ (.string { data := #[] })).setCell ⟨w.heap.size, 2, none⟩ (.int .i64 0)).setCell ⟨w.heap.size, 3, none⟩ (.int .i64 0) = W9 at *
    exact bodyPost_ret (v := .tuple #[.agg #[.int .i64 0, .string { data := #[] }, .int .i64 0, .int .i64 0], .int .i64 0, .int .i64 1]) (by simp [results, Tryz.results42, go_sem, l1, l2, l3, l4]) rfl ⟨rfl, l5⟩
  · exfalso; omega
set_option maxHeartbeats 4000000 in
theorem number_far1 (s : ByteArray) (w : World) (h0 : 1 < s.size) (hs : s.size ≤ 16384) (hsg : ((s[0].toNat : Int) == 45) = true) (k : Nat) (hk : spn dgt ((bl s).drop 1) = k) (hk1 : 1 ≤ k) (hks : k + 1 ≤ s.size) (hz : ((s[1].toNat : Int) == 48) = false ∨ 1 + k = 1) (t : ByteArray) (ht : s.extract 0 (1 + k) = t) (hE : Env w) (hA : AtFar t) :
    Calls Tryz.prog 42 #[.string s] w (TokOut (z0, 0, 1) w) := by
  have c2 := fun w => span_isDigit (s.extract 1 s.size) w (by rw [ByteArray.size_extract]; omega)
  rw [bl_drop s 1, hk] at c2
  have c3 := Lib.hid c2
  have hle : (1 : Int) ≤ (s.size : Int) := by omega
  have e1 : ∀ w, (Instr.slice 9 (.string s) (some (.int .i64 1)) none none).run Tryz.prog w = .ok (.string (s.extract 1 s.size)) w := fun w => run_slice_string_l w _ s Tryz.underlying9 .i64 1 (by omega) hle
  have u1 : ((k : Int) == 0) = false := by simp; omega
  have u1' : (k == 0) = false := by simp; omega
  have u2 : (1 + (k : Int) == 1) = false := by simp; omega
  have u5 : decide (0 < k) = true := by simp; omega
  have u6 : decide ((0 : Int) < (k : Int)) = true := by simp; omega
  have e2 : ∀ w, (Instr.slice 9 (.string s) none (some (.int .i64 (1 + (k : Int)))) none).run Tryz.prog w = .ok (.string t) w := fun w => by
    rw [run_slice_string_h w _ s Tryz.underlying9 .i64 (1 + (k : Int)) (by omega) (by omega), show (1 + (k : Int)).toNat = 1 + k by omega, ht]
  have K0 := Lib.hid (TkAt.new w z0)
  have B0 := Lib.hid ((Below.refl w.heap.size w).alloc (Nat.le_refl _) (.cells #[.int .i64 0, .string { data := #[] }, .int .i64 0, .int .i64 0] 25))
  have cA := Lib.hid (hA _ (hE.alloc (.cells #[.int .i64 0, .string { data := #[] }, .int .i64 0, .int .i64 0] 25)))
  clear hA
  have hz' : (((s[1].toNat : Int) == 48) = false) ∨ 1 + k = 1 := hz
  clear c2 hk ht
  by_cases hk2 : 1 < 1 + k
  · have hz2 : ((s[1].toNat : Int) == 48) = false := by
      rcases hz' with h | h
      · exact h
      · omega
    have u3 : decide ((1 : Int) < 1 + (k : Int)) = true := by simp; omega
    have u3' : decide (1 < 1 + k) = true := by simp; omega
    clear hz hz' hk2
    go_enter Tryz.func42, Tryz.ntmps42
    go_wp2_with fail
    refine (c3.out _).mono ?_; rintro e w' ⟨rfl, rfl⟩
    go_wp2_with fail
    try any_goals (exfalso; omega; done)
    refine cA.out.mono ?_; rintro e W1 ⟨v, N, rfl, hB⟩
    have K1 := Lib.hid (K0.out.keep hB)
    have B1 := Lib.hid (B0.out.trans (hB.mono B0.out.size))
    have B2 := Lib.hid (below_setTk B1.out (Nat.le_refl _) z0)
    have K2 := K1.out
    have K3 := Lib.hid (K1.out.set z0)
    clear K0 B0 hB
    obtain ⟨j0, ⟨j1, j2, j3, j4⟩, j5, j6, j7, j8⟩ := K2
    go_wp2_with fail
    have l1 : ((((W1.setCell ⟨w.heap.size, 0, none⟩ (.int .i64 0)).setCell ⟨w.heap.size, 1, none⟩ (.string { data := #[] })).setCell ⟨w.heap.size, 2, none⟩ (.int .i64 0)).setCell ⟨w.heap.size, 3, none⟩ (.int .i64 0)).cell? ⟨w.heap.size, 0, none⟩ = some (.int .i64 0) := K3.out.2.1.1
    have l2 : ((((W1.setCell ⟨w.heap.size, 0, none⟩ (.int .i64 0)).setCell ⟨w.heap.size, 1, none⟩ (.string { data := #[] })).setCell ⟨w.heap.size, 2, none⟩ (.int .i64 0)).setCell ⟨w.heap.size, 3, none⟩ (.int .i64 0)).cell? ⟨w.heap.size, 1, none⟩ = some (.string { data := #[] }) := K3.out.2.1.2.1
    have l3 : ((((W1.setCell ⟨w.heap.size, 0, none⟩ (.int .i64 0)).setCell ⟨w.heap.size, 1, none⟩ (.string { data := #[] })).setCell ⟨w.heap.size, 2, none⟩ (.int .i64 0)).setCell ⟨w.heap.size, 3, none⟩ (.int .i64 0)).cell? ⟨w.heap.size, 2, none⟩ = some (.int .i64 0) := K3.out.2.1.2.2.1
    have l4 : ((((W1.setCell ⟨w.heap.size, 0, none⟩ (.int .i64 0)).setCell ⟨w.heap.size, 1, none⟩ (.string { data := #[] })).setCell ⟨w.heap.size, 2, none⟩ (.int .i64 0)).setCell ⟨w.heap.size, 3, none⟩ (.int .i64 0)).cell? ⟨w.heap.size, 3, none⟩ = some (.int .i64 0) := K3.out.2.1.2.2.2
    have l5 : Below w.heap.size w ((((W1.setCell ⟨w.heap.size, 0, none⟩ (.int .i64 0)).setCell ⟨w.heap.size, 1, none⟩ (.string { data := #[] })).setCell ⟨w.heap.size, 2, none⟩ (.int .i64 0)).setCell ⟨w.heap.size, 3, none⟩ (.int .i64 0)) := B2.out
    clear K1 K3 B1 B2 j0 j1 j2 j3 j4 j5 j6 j7 j8
    generalize (((W1.setCell ⟨w.heap.size, 0, none⟩ (.int .i64 0)).setCell ⟨w.heap.size, 1, none⟩ (.string { data := #[] })).setCell ⟨w.heap.size, 2, none⟩ (.int .i64 0)).setCell ⟨w.heap.size, 3, none⟩ (.int .i64 0) = W9 at *
    exact bodyPost_ret (v := .tuple #[.agg #[.int .i64 0, .string { data := #[] }, .int .i64 0, .int .i64 0], .int .i64 0, .int .i64 1]) (by simp [results, Tryz.results42, go_sem, l1, l2, l3, l4]) rfl ⟨rfl, l5⟩
  · exfalso; omega
theorem sgn_of (s : ByteArray) (h0 : 0 < s.size) : sgn (bl s) = if ((s[0].toNat : Int) == 45) = true then 1 else 0 := by
  unfold sgn
  rw [bl_get s 0 h0]
  by_cases h : s[0].toNat = 45
  · rw [if_pos h, if_pos (by simp; omega)]
  · rw [if_neg h, if_neg (by simp; omega)]
set_option maxHeartbeats 4000000 in
theorem number_any (s : ByteArray) (w : World) (hE : Env w) (h0 : 0 < s.size) (hs : s.size ≤ 16384) : Calls Tryz.prog 42 #[.string s] w (TokOut (numV (bl s)) w) := by
  have hsg := sgn_of s h0
  by_cases hn : numSz (bl s) = sgn (bl s)
  · have hv : numV (bl s) = (z0, 0, 5) := by unfold numV; rw [if_pos (.inl hn)]
    rw [hv]
    refine number_none s w h0 hs ((s[0].toNat : Int) == 45) rfl ?_
    rw [← hsg]
    have : numSz (bl s) = sgn (bl s) + spn dgt ((bl s).drop (sgn (bl s))) := rfl
    omega
  · obtain ⟨d, hd0, hdd, hde, hdt, hdl⟩ := num_parts (bl s) hn
    have hz : numSz (bl s) = sgn (bl s) + spn dgt ((bl s).drop (sgn (bl s))) := rfl
    have hle := spn_le dgt ((bl s).drop (sgn (bl s)))
    rw [List.length_drop, bl_size] at hle
    have hd1 : 1 ≤ d.length := by cases d with | nil => exact absurd rfl hd0 | cons c r => simp
    have hsz : numSz (bl s) ≤ s.size := by omega
    have hbt : bl (s.extract 0 (numSz (bl s))) = (bl s).take (numSz (bl s)) := bl_take s _ hsz
    have hts : (s.extract 0 (numSz (bl s))).size ≤ 16384 := by rw [ByteArray.size_extract]; omega
    cases hq : ((s[0].toNat : Int) == 45) with
    | false =>
      rw [hq, if_neg (by simp)] at hsg
      rw [hsg] at hz hdt hdl hle hde
      rw [if_neg (by omega)] at hdt
      rw [hdt] at hbt
      have hz2 : numSz (bl s) = 0 + d.length := by omega
      have hg : ((bl s).getD 0 0).toNat = s[0].toNat := by rw [bl_get s 0 h0]
      by_cases hlead : 1 < numSz (bl s) ∧ ((bl s).getD 0 0).toNat = 48
      · have hv : numV (bl s) = (z0, 0, 5) := by unfold numV; rw [hsg, if_pos (.inr hlead)]
        rw [hv]
        exact number_zero0 s w h0 hs hq d.length hdl.symm hd1 (by omega) (by simp; omega) (by omega)
      · have hlead2 : ((s[0].toNat : Int) == 48) = false ∨ 0 + d.length = 1 := by
          by_cases e : s[0].toNat = 48
          · right; have : ¬ 1 < numSz (bl s) := fun h => hlead ⟨h, by omega⟩; omega
          · left; simp; omega
        have A := atoi_plain d hd0 hdd
        by_cases hbig : 17592186044416 < dv 0 d
        · have hv : numV (bl s) = (z0, 0, 1) := by
            unfold numV; rw [hsg, if_neg (by rintro (h | h); omega; exact hlead h), ← hde, if_pos hbig]
          rw [hv]
          rcases A.2 hbig with h | ⟨u, h, hu⟩
          · exact number_far0 s w h0 hs hq d.length hdl.symm hd1 (by omega) hlead2 _ rfl hE (atFar _ (by rw [← hz2]; exact hts) (by rw [← hz2, hbt]; exact h))
          · exact number_big0 s w h0 hs hq d.length hdl.symm hd1 (by omega) hlead2 _ rfl u (by omega) (atOk _ (by rw [← hz2]; exact hts) u (by rw [← hz2, hbt]; exact h))
        · have hv : numV (bl s) = (⟨2, [], (dv 0 d : Int), 0⟩, 0 + d.length, 0) := by
            unfold numV; rw [hsg, if_neg (by rintro (h | h); omega; exact hlead h), ← hde, if_neg hbig, if_neg (by omega), ← hz2]
          rw [hv]
          exact number_val0 s w h0 hs hq d.length hdl.symm hd1 (by omega) hlead2 _ rfl (dv 0 d) (by omega) (atOk _ (by rw [← hz2]; exact hts) _ (by rw [← hz2, hbt]; exact A.1 (by omega)))
    | true =>
      rw [hq, if_pos rfl] at hsg
      rw [hsg] at hz hdt hdl hle hde
      rw [if_pos rfl] at hdt
      rw [hdt] at hbt
      have hz2 : numSz (bl s) = 1 + d.length := by omega
      have h1 : 1 < s.size := by omega
      have hg : ((bl s).getD 1 0).toNat = s[1].toNat := by rw [bl_get s 1 h1]
      by_cases hlead : 1 < numSz (bl s) ∧ ((bl s).getD 1 0).toNat = 48
      · have hv : numV (bl s) = (z0, 0, 5) := by unfold numV; rw [hsg, if_pos (.inr hlead)]
        rw [hv]
        exact number_zero1 s w h1 hs hq d.length hdl.symm hd1 (by omega) (by simp; omega) (by omega)
      · have hlead2 : ((s[1].toNat : Int) == 48) = false ∨ 1 + d.length = 1 := by
          left
          have : ¬ (s[1].toNat = 48) := fun h => hlead ⟨by omega, by omega⟩
          simp; omega
        have A := atoi_minus d hd0 hdd
        by_cases hbig : 17592186044416 < dv 0 d
        · have hv : numV (bl s) = (z0, 0, 1) := by
            unfold numV; rw [hsg, if_neg (by rintro (h | h); omega; exact hlead h), ← hde, if_pos hbig]
          rw [hv]
          rcases A.2 hbig with h | ⟨u, h, hu⟩
          · exact number_far1 s w h1 hs hq d.length hdl.symm hd1 (by omega) hlead2 _ rfl hE (atFar _ (by rw [← hz2]; exact hts) (by rw [← hz2, hbt]; exact h))
          · exact number_big1 s w h1 hs hq d.length hdl.symm hd1 (by omega) hlead2 _ rfl u (by omega) (atOk _ (by rw [← hz2]; exact hts) u (by rw [← hz2, hbt]; exact h))
        · have hv : numV (bl s) = (⟨2, [], -(dv 0 d : Int), 0⟩, 1 + d.length, 0) := by
            unfold numV; rw [hsg, if_neg (by rintro (h | h); omega; exact hlead h), ← hde, if_neg hbig, if_pos rfl, ← hz2]
          rw [hv]
          exact number_val1 s w h1 hs hq d.length hdl.symm hd1 (by omega) hlead2 _ rfl (-(dv 0 d : Int)) (by omega) (atOk _ (by rw [← hz2]; exact hts) _ (by rw [← hz2, hbt]; exact A.1 (by omega)))
end Go.Proofs.YtaengcbjpniclaaGreatDoor.Lx
