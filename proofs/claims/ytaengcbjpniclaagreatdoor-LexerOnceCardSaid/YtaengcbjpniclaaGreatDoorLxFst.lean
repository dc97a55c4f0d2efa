/- Package lexer: any token at the beginning of a text. -/
import Derived.Test.YtaengcbjpniclaaGreatDoorLxFirst
namespace Go.Proofs.YtaengcbjpniclaaGreatDoor.Lx
open Go.RowKit Go.Lib Go.Proofs.YtaengcbjpniclaaGreatDoor.Bas Go.Proofs.YtaengcbjpniclaaGreatDoor.Cal
set_option linter.unusedVariables false

set_option maxHeartbeats 4000000 in
theorem first_word (s : ByteArray) (w : World) (h0 : 0 < s.size) (hs : s.size ≤ 16384) (h : ltr s[0] = true) : Calls Tryz.prog 27 #[.string s] w (TokOut (wdV (bl s)) w) := by
  have cL := Lib.hid (isLetter_any s[0])
  rw [h] at cL
  have cF := Lib.hid (fun w => word_any s w hs)
  generalize wdV (bl s) = x at *
  obtain ⟨⟨k1, t1, n1, p1⟩, sz1, e1⟩ := x
  clear h
  have K0 := Lib.hid (TkAt.new w z0)
  have B0 := Lib.hid ((Below.refl w.heap.size w).alloc (Nat.le_refl _) (.cells #[.int .i64 0, .string { data := #[] }, .int .i64 0, .int .i64 0] 25))
  go_enter Tryz.func27, Tryz.ntmps27
  go_wp2_with fail
  refine (cL.out _).mono ?_; rintro e w' ⟨rfl, rfl⟩
  go_wp2_with fail
  refine (cF.out _).mono ?_; rintro e W1 ⟨rfl, hB⟩
  have K1 := Lib.hid (K0.out.keep hB)
  have B1 := Lib.hid (B0.out.trans (hB.mono B0.out.size))
  have B2 := Lib.hid (below_setTk B1.out (Nat.le_refl _) ⟨k1, t1, n1, p1⟩)
  have K2 := K1.out
  have K3 := Lib.hid (K1.out.set ⟨k1, t1, n1, p1⟩)
  clear K0 B0 hB
  obtain ⟨j0, ⟨j1, j2, j3, j4⟩, j5, j6, j7, j8⟩ := K2
  unfold tkV
  go_wp2_with fail
  have l1 : ((((W1.setCell ⟨w.heap.size, 0, none⟩ (.int .i64 k1)).setCell ⟨w.heap.size, 1, none⟩ (.string (tx t1))).setCell ⟨w.heap.size, 2, none⟩ (.int .i64 n1)).setCell ⟨w.heap.size, 3, none⟩ (.int .i64 p1)).cell? ⟨w.heap.size, 0, none⟩ = some (.int .i64 k1) := K3.out.2.1.1
  have l2 : ((((W1.setCell ⟨w.heap.size, 0, none⟩ (.int .i64 k1)).setCell ⟨w.heap.size, 1, none⟩ (.string (tx t1))).setCell ⟨w.heap.size, 2, none⟩ (.int .i64 n1)).setCell ⟨w.heap.size, 3, none⟩ (.int .i64 p1)).cell? ⟨w.heap.size, 1, none⟩ = some (.string (tx t1)) := K3.out.2.1.2.1
  have l3 : ((((W1.setCell ⟨w.heap.size, 0, none⟩ (.int .i64 k1)).setCell ⟨w.heap.size, 1, none⟩ (.string (tx t1))).setCell ⟨w.heap.size, 2, none⟩ (.int .i64 n1)).setCell ⟨w.heap.size, 3, none⟩ (.int .i64 p1)).cell? ⟨w.heap.size, 2, none⟩ = some (.int .i64 n1) := K3.out.2.1.2.2.1
  have l4 : ((((W1.setCell ⟨w.heap.size, 0, none⟩ (.int .i64 k1)).setCell ⟨w.heap.size, 1, none⟩ (.string (tx t1))).setCell ⟨w.heap.size, 2, none⟩ (.int .i64 n1)).setCell ⟨w.heap.size, 3, none⟩ (.int .i64 p1)).cell? ⟨w.heap.size, 3, none⟩ = some (.int .i64 p1) := K3.out.2.1.2.2.2
  have l5 : Below w.heap.size w ((((W1.setCell ⟨w.heap.size, 0, none⟩ (.int .i64 k1)).setCell ⟨w.heap.size, 1, none⟩ (.string (tx t1))).setCell ⟨w.heap.size, 2, none⟩ (.int .i64 n1)).setCell ⟨w.heap.size, 3, none⟩ (.int .i64 p1)) := B2.out
  clear K1 K3 B1 B2 j0 j1 j2 j3 j4 j5 j6 j7 j8
  generalize (((W1.setCell ⟨w.heap.size, 0, none⟩ (.int .i64 k1)).setCell ⟨w.heap.size, 1, none⟩ (.string (tx t1))).setCell ⟨w.heap.size, 2, none⟩ (.int .i64 n1)).setCell ⟨w.heap.size, 3, none⟩ (.int .i64 p1) = W9 at *
  exact bodyPost_ret (v := .tuple #[.agg #[.int .i64 k1, .string (tx t1), .int .i64 n1, .int .i64 p1], .int .i64 (sz1 : Int), .int .i64 e1]) (by simp [results, Tryz.results27, go_sem, l1, l2, l3, l4]) rfl ⟨rfl, l5⟩
set_option maxHeartbeats 4000000 in
theorem first_num (s : ByteArray) (w : World) (hE : Env w) (h0 : 0 < s.size) (hs : s.size ≤ 16384) (hn : ltr s[0] = false) (h : dgt s[0] = true ∨ ((s[0].toNat : Int) == 45) = true) : Calls Tryz.prog 27 #[.string s] w (TokOut (numV (bl s)) w) := by
  have cL := Lib.hid (isLetter_any s[0])
  rw [hn] at cL
  have cD := Lib.hid (isDigit_any s[0])
  have cF := Lib.hid (fun w hE => number_any s w hE h0 hs)
  have hE1 := Lib.hid (hE.alloc (.cells #[.int .i64 0, .string { data := #[] }, .int .i64 0, .int .i64 0] 25))
  generalize numV (bl s) = x at *
  obtain ⟨⟨k1, t1, n1, p1⟩, sz1, e1⟩ := x
  clear hn hE
  cases hd : dgt s[0] with
  | true =>
    rw [hd] at cD
    clear h hd
    have K0 := Lib.hid (TkAt.new w z0)
    have B0 := Lib.hid ((Below.refl w.heap.size w).alloc (Nat.le_refl _) (.cells #[.int .i64 0, .string { data := #[] }, .int .i64 0, .int .i64 0] 25))
    go_enter Tryz.func27, Tryz.ntmps27
    go_wp2_with fail
    refine (cL.out _).mono ?_; rintro e w' ⟨rfl, rfl⟩
    go_wp2_with fail
    refine (cD.out _).mono ?_; rintro e w' ⟨rfl, rfl⟩
    go_wp2_with fail
    refine (cF.out _ hE1.out).mono ?_; rintro e W1 ⟨rfl, hB⟩
    have K1 := Lib.hid (K0.out.keep hB)
    have B1 := Lib.hid (B0.out.trans (hB.mono B0.out.size))
    have B2 := Lib.hid (below_setTk B1.out (Nat.le_refl _) ⟨k1, t1, n1, p1⟩)
    have K2 := K1.out
    have K3 := Lib.hid (K1.out.set ⟨k1, t1, n1, p1⟩)
    clear K0 B0 hB
    obtain ⟨j0, ⟨j1, j2, j3, j4⟩, j5, j6, j7, j8⟩ := K2
    unfold tkV
    go_wp2_with fail
    have l1 : ((((W1.setCell ⟨w.heap.size, 0, none⟩ (.int .i64 k1)).setCell ⟨w.heap.size, 1, none⟩ (.string (tx t1))).setCell ⟨w.heap.size, 2, none⟩ (.int .i64 n1)).setCell ⟨w.heap.size, 3, none⟩ (.int .i64 p1)).cell? ⟨w.heap.size, 0, none⟩ = some (.int .i64 k1) := K3.out.2.1.1
    have l2 : ((((W1.setCell ⟨w.heap.size, 0, none⟩ (.int .i64 k1)).setCell ⟨w.heap.size, 1, none⟩ (.string (tx t1))).setCell ⟨w.heap.size, 2, none⟩ (.int .i64 n1)).setCell ⟨w.heap.size, 3, none⟩ (.int .i64 p1)).cell? ⟨w.heap.size, 1, none⟩ = some (.string (tx t1)) := K3.out.2.1.2.1
    have l3 : ((((W1.setCell ⟨w.heap.size, 0, none⟩ (.int .i64 k1)).setCell ⟨w.heap.size, 1, none⟩ (.string (tx t1))).setCell ⟨w.heap.size, 2, none⟩ (.int .i64 n1)).setCell ⟨w.heap.size, 3, none⟩ (.int .i64 p1)).cell? ⟨w.heap.size, 2, none⟩ = some (.int .i64 n1) := K3.out.2.1.2.2.1
    have l4 : ((((W1.setCell ⟨w.heap.size, 0, none⟩ (.int .i64 k1)).setCell ⟨w.heap.size, 1, none⟩ (.string (tx t1))).setCell ⟨w.heap.size, 2, none⟩ (.int .i64 n1)).setCell ⟨w.heap.size, 3, none⟩ (.int .i64 p1)).cell? ⟨w.heap.size, 3, none⟩ = some (.int .i64 p1) := K3.out.2.1.2.2.2
    have l5 : Below w.heap.size w ((((W1.setCell ⟨w.heap.size, 0, none⟩ (.int .i64 k1)).setCell ⟨w.heap.size, 1, none⟩ (.string (tx t1))).setCell ⟨w.heap.size, 2, none⟩ (.int .i64 n1)).setCell ⟨w.heap.size, 3, none⟩ (.int .i64 p1)) := B2.out
    clear K1 K3 B1 B2 j0 j1 j2 j3 j4 j5 j6 j7 j8
    generalize (((W1.setCell ⟨w.heap.size, 0, none⟩ (.int .i64 k1)).setCell ⟨w.heap.size, 1, none⟩ (.string (tx t1))).setCell ⟨w.heap.size, 2, none⟩ (.int .i64 n1)).setCell ⟨w.heap.size, 3, none⟩ (.int .i64 p1) = W9 at *
    exact bodyPost_ret (v := .tuple #[.agg #[.int .i64 k1, .string (tx t1), .int .i64 n1, .int .i64 p1], .int .i64 (sz1 : Int), .int .i64 e1]) (by simp [results, Tryz.results27, go_sem, l1, l2, l3, l4]) rfl ⟨rfl, l5⟩
  | false =>
    rw [hd] at cD h
    have h45 : ((s[0].toNat : Int) == 45) = true := by
      rcases h with h | h
      · cases h
      · exact h
    clear h hd
    have K0 := Lib.hid (TkAt.new w z0)
    have B0 := Lib.hid ((Below.refl w.heap.size w).alloc (Nat.le_refl _) (.cells #[.int .i64 0, .string { data := #[] }, .int .i64 0, .int .i64 0] 25))
    go_enter Tryz.func27, Tryz.ntmps27
    go_wp2_with fail
    refine (cL.out _).mono ?_; rintro e w' ⟨rfl, rfl⟩
    go_wp2_with fail
    refine (cD.out _).mono ?_; rintro e w' ⟨rfl, rfl⟩
    go_wp2_with fail
    refine (cF.out _ hE1.out).mono ?_; rintro e W1 ⟨rfl, hB⟩
    have K1 := Lib.hid (K0.out.keep hB)
    have B1 := Lib.hid (B0.out.trans (hB.mono B0.out.size))
    have B2 := Lib.hid (below_setTk B1.out (Nat.le_refl _) ⟨k1, t1, n1, p1⟩)
    have K2 := K1.out
    have K3 := Lib.hid (K1.out.set ⟨k1, t1, n1, p1⟩)
    clear K0 B0 hB
    obtain ⟨j0, ⟨j1, j2, j3, j4⟩, j5, j6, j7, j8⟩ := K2
    unfold tkV
    go_wp2_with fail
    have l1 : ((((W1.setCell ⟨w.heap.size, 0, none⟩ (.int .i64 k1)).setCell ⟨w.heap.size, 1, none⟩ (.string (tx t1))).setCell ⟨w.heap.size, 2, none⟩ (.int .i64 n1)).setCell ⟨w.heap.size, 3, none⟩ (.int .i64 p1)).cell? ⟨w.heap.size, 0, none⟩ = some (.int .i64 k1) := K3.out.2.1.1
    have l2 : ((((W1.setCell ⟨w.heap.size, 0, none⟩ (.int .i64 k1)).setCell ⟨w.heap.size, 1, none⟩ (.string (tx t1))).setCell ⟨w.heap.size, 2, none⟩ (.int .i64 n1)).setCell ⟨w.heap.size, 3, none⟩ (.int .i64 p1)).cell? ⟨w.heap.size, 1, none⟩ = some (.string (tx t1)) := K3.out.2.1.2.1
    have l3 : ((((W1.setCell ⟨w.heap.size, 0, none⟩ (.int .i64 k1)).setCell ⟨w.heap.size, 1, none⟩ (.string (tx t1))).setCell ⟨w.heap.size, 2, none⟩ (.int .i64 n1)).setCell ⟨w.heap.size, 3, none⟩ (.int .i64 p1)).cell? ⟨w.heap.size, 2, none⟩ = some (.int .i64 n1) := K3.out.2.1.2.2.1
    have l4 : ((((W1.setCell ⟨w.heap.size, 0, none⟩ (.int .i64 k1)).setCell ⟨w.heap.size, 1, none⟩ (.string (tx t1))).setCell ⟨w.heap.size, 2, none⟩ (.int .i64 n1)).setCell ⟨w.heap.size, 3, none⟩ (.int .i64 p1)).cell? ⟨w.heap.size, 3, none⟩ = some (.int .i64 p1) := K3.out.2.1.2.2.2
    have l5 : Below w.heap.size w ((((W1.setCell ⟨w.heap.size, 0, none⟩ (.int .i64 k1)).setCell ⟨w.heap.size, 1, none⟩ (.string (tx t1))).setCell ⟨w.heap.size, 2, none⟩ (.int .i64 n1)).setCell ⟨w.heap.size, 3, none⟩ (.int .i64 p1)) := B2.out
    clear K1 K3 B1 B2 j0 j1 j2 j3 j4 j5 j6 j7 j8
    generalize (((W1.setCell ⟨w.heap.size, 0, none⟩ (.int .i64 k1)).setCell ⟨w.heap.size, 1, none⟩ (.string (tx t1))).setCell ⟨w.heap.size, 2, none⟩ (.int .i64 n1)).setCell ⟨w.heap.size, 3, none⟩ (.int .i64 p1) = W9 at *
    exact bodyPost_ret (v := .tuple #[.agg #[.int .i64 k1, .string (tx t1), .int .i64 n1, .int .i64 p1], .int .i64 (sz1 : Int), .int .i64 e1]) (by simp [results, Tryz.results27, go_sem, l1, l2, l3, l4]) rfl ⟨rfl, l5⟩
set_option maxHeartbeats 4000000 in
theorem first_hour (s : ByteArray) (w : World) (hE : Env w) (h0 : 0 < s.size) (hs : s.size ≤ 16384) (hn : ltr s[0] = false) (hd : dgt s[0] = false) (h45 : ((s[0].toNat : Int) == 45) = false) (h64 : ((s[0].toNat : Int) == 64) = true) : Calls Tryz.prog 27 #[.string s] w (TokOut (hrV (bl s)) w) := by
  have cL := Lib.hid (isLetter_any s[0])
  rw [hn] at cL
  have cD := Lib.hid (isDigit_any s[0])
  rw [hd] at cD
  have cF := Lib.hid (fun w hE => hour_any s w hE h0 hs)
  have hE1 := Lib.hid (hE.alloc (.cells #[.int .i64 0, .string { data := #[] }, .int .i64 0, .int .i64 0] 25))
  generalize hrV (bl s) = x at *
  obtain ⟨⟨k1, t1, n1, p1⟩, sz1, e1⟩ := x
  clear hn hE hd
  have K0 := Lib.hid (TkAt.new w z0)
  have B0 := Lib.hid ((Below.refl w.heap.size w).alloc (Nat.le_refl _) (.cells #[.int .i64 0, .string { data := #[] }, .int .i64 0, .int .i64 0] 25))
  go_enter Tryz.func27, Tryz.ntmps27
  go_wp2_with fail
  refine (cL.out _).mono ?_; rintro e w' ⟨rfl, rfl⟩
  go_wp2_with fail
  refine (cD.out _).mono ?_; rintro e w' ⟨rfl, rfl⟩
  go_wp2_with fail
  refine (cF.out _ hE1.out).mono ?_; rintro e W1 ⟨rfl, hB⟩
  have K1 := Lib.hid (K0.out.keep hB)
  have B1 := Lib.hid (B0.out.trans (hB.mono B0.out.size))
  have B2 := Lib.hid (below_setTk B1.out (Nat.le_refl _) ⟨k1, t1, n1, p1⟩)
  have K2 := K1.out
  have K3 := Lib.hid (K1.out.set ⟨k1, t1, n1, p1⟩)
  clear K0 B0 hB
  obtain ⟨j0, ⟨j1, j2, j3, j4⟩, j5, j6, j7, j8⟩ := K2
  unfold tkV
  go_wp2_with fail
  have l1 : ((((W1.setCell ⟨w.heap.size, 0, none⟩ (.int .i64 k1)).setCell ⟨w.heap.size, 1, none⟩ (.string (tx t1))).setCell ⟨w.heap.size, 2, none⟩ (.int .i64 n1)).setCell ⟨w.heap.size, 3, none⟩ (.int .i64 p1)).cell? ⟨w.heap.size, 0, none⟩ = some (.int .i64 k1) := K3.out.2.1.1
  have l2 : ((((W1.setCell ⟨w.heap.size, 0, none⟩ (.int .i64 k1)).setCell ⟨w.heap.size, 1, none⟩ (.string (tx t1))).setCell ⟨w.heap.size, 2, none⟩ (.int .i64 n1)).setCell ⟨w.heap.size, 3, none⟩ (.int .i64 p1)).cell? ⟨w.heap.size, 1, none⟩ = some (.string (tx t1)) := K3.out.2.1.2.1
  have l3 : ((((W1.setCell ⟨w.heap.size, 0, none⟩ (.int .i64 k1)).setCell ⟨w.heap.size, 1, none⟩ (.string (tx t1))).setCell ⟨w.heap.size, 2, none⟩ (.int .i64 n1)).setCell ⟨w.heap.size, 3, none⟩ (.int .i64 p1)).cell? ⟨w.heap.size, 2, none⟩ = some (.int .i64 n1) := K3.out.2.1.2.2.1
  have l4 : ((((W1.setCell ⟨w.heap.size, 0, none⟩ (.int .i64 k1)).setCell ⟨w.heap.size, 1, none⟩ (.string (tx t1))).setCell ⟨w.heap.size, 2, none⟩ (.int .i64 n1)).setCell ⟨w.heap.size, 3, none⟩ (.int .i64 p1)).cell? ⟨w.heap.size, 3, none⟩ = some (.int .i64 p1) := K3.out.2.1.2.2.2
  have l5 : Below w.heap.size w ((((W1.setCell ⟨w.heap.size, 0, none⟩ (.int .i64 k1)).setCell ⟨w.heap.size, 1, none⟩ (.string (tx t1))).setCell ⟨w.heap.size, 2, none⟩ (.int .i64 n1)).setCell ⟨w.heap.size, 3, none⟩ (.int .i64 p1)) := B2.out
  clear K1 K3 B1 B2 j0 j1 j2 j3 j4 j5 j6 j7 j8
  generalize (((W1.setCell ⟨w.heap.size, 0, none⟩ (.int .i64 k1)).setCell ⟨w.heap.size, 1, none⟩ (.string (tx t1))).setCell ⟨w.heap.size, 2, none⟩ (.int .i64 n1)).setCell ⟨w.heap.size, 3, none⟩ (.int .i64 p1) = W9 at *
  exact bodyPost_ret (v := .tuple #[.agg #[.int .i64 k1, .string (tx t1), .int .i64 n1, .int .i64 p1], .int .i64 (sz1 : Int), .int .i64 e1]) (by simp [results, Tryz.results27, go_sem, l1, l2, l3, l4]) rfl ⟨rfl, l5⟩
set_option maxHeartbeats 4000000 in
theorem first_mark (s : ByteArray) (w : World) (h0 : 0 < s.size) (hs : s.size ≤ 16384) (hn : ltr s[0] = false) (hd : dgt s[0] = false) (h45 : ((s[0].toNat : Int) == 45) = false) (h64 : ((s[0].toNat : Int) == 64) = false) :
    Calls Tryz.prog 27 #[.string s] w (TokOut (if markB ((bl s).take 1) = true then (⟨4, (bl s).take 1, 0, 0⟩, 1, 0) else (z0, 0, 5)) w) := by
  have cL := Lib.hid (isLetter_any s[0])
  rw [hn] at cL
  have cD := Lib.hid (isDigit_any s[0])
  rw [hd] at cD
  have he := tx_extract s 0 1 (by omega)
  rw [List.drop_zero] at he
  have cM := Lib.hid (isMark_any (s.extract 0 1))
  rw [bl_take s 1 (by omega)] at cM
  obtain ⟨t, ht⟩ : ∃ t, s.extract 0 1 = t := ⟨_, rfl⟩
  rw [ht] at he cM
  have hle1 : (1 : Int) ≤ (s.size : Int) := by omega
  have e1 : ∀ w, (Instr.slice 9 (.string s) none (some (.int .i64 1)) none).run Tryz.prog w = .ok (.string t) w := fun w => by
    rw [run_slice_string_h w _ s Tryz.underlying9 .i64 1 (by omega) hle1, show (1 : Int).toNat = 1 from rfl, ht]
  generalize (bl s).take 1 = u at *
  have he' := Lib.hid he
  clear ht hn hd he
  cases hm : markB u with
  | true =>
    rw [hm] at cM
    rw [if_pos rfl]
    clear hm
    go_enter Tryz.func27, Tryz.ntmps27
    go_wp2_with fail
    refine (cL.out _).mono ?_; rintro e w' ⟨rfl, rfl⟩
    go_wp2_with fail
    refine (cD.out _).mono ?_; rintro e w' ⟨rfl, rfl⟩
    go_wp2_with fail
    refine (cM.out _).mono ?_; rintro e w' ⟨rfl, rfl⟩
    go_wp2_with fail
    exact bodyPost_ret (v := .tuple #[.agg #[.int .i64 4, .string t, .int .i64 0, .int .i64 0], .int .i64 1, .int .i64 0]) (by simp [results, Tryz.results27, go_sem]) rfl ⟨by rw [he'.out]; rfl, (Below.refl _ _).alloc (Nat.le_refl _) _⟩
  | false =>
    rw [hm] at cM
    rw [if_neg (by simp)]
    clear hm
    go_enter Tryz.func27, Tryz.ntmps27
    go_wp2_with fail
    refine (cL.out _).mono ?_; rintro e w' ⟨rfl, rfl⟩
    go_wp2_with fail
    refine (cD.out _).mono ?_; rintro e w' ⟨rfl, rfl⟩
    go_wp2_with fail
    refine (cM.out _).mono ?_; rintro e w' ⟨rfl, rfl⟩
    go_wp2_with fail
    exact bodyPost_ret (v := .tuple #[.agg #[.int .i64 0, .string { data := #[] }, .int .i64 0, .int .i64 0], .int .i64 0, .int .i64 5]) (by simp [results, Tryz.results27, go_sem]) rfl ⟨rfl, (Below.refl _ _).alloc (Nat.le_refl _) _⟩
set_option maxHeartbeats 1000000 in
theorem first_any (s : ByteArray) (w : World) (hE : Env w) (h0 : 0 < s.size) (hs : s.size ≤ 16384) : Calls Tryz.prog 27 #[.string s] w (TokOut (firstV (bl s)) w) := by
  unfold firstV
  rw [bl_get s 0 h0]
  cases h1 : ltr s[0] with
  | true => rw [if_pos rfl]; exact first_word s w h0 hs h1
  | false =>
    rw [if_neg (by simp)]
    by_cases h45 : s[0].toNat = 45
    · rw [if_pos (.inr h45)]
      exact first_num s w hE h0 hs h1 (.inr (by simp; omega))
    · cases h2 : dgt s[0] with
      | true => rw [if_pos (.inl rfl)]; exact first_num s w hE h0 hs h1 (.inl h2)
      | false =>
        rw [if_neg (by simp [h45])]
        by_cases h64 : s[0].toNat = 64
        · rw [if_pos h64]
          exact first_hour s w hE h0 hs h1 h2 (by simp; omega) (by simp; omega)
        · rw [if_neg h64]
          exact first_mark s w h0 hs h1 h2 (by simp; omega) (by simp; omega)
end Go.Proofs.YtaengcbjpniclaaGreatDoor.Lx
