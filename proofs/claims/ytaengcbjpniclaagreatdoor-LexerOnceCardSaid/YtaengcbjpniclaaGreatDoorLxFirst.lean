/- Package lexer: an hour, and any token, at the beginning of a text. -/
import Derived.Test.YtaengcbjpniclaaGreatDoorLxNumP
namespace Go.Proofs.YtaengcbjpniclaaGreatDoor.Lx
open Go.RowKit Go.Lib Go.Proofs.YtaengcbjpniclaaGreatDoor.Bas Go.Proofs.YtaengcbjpniclaaGreatDoor.Cal
set_option linter.unusedVariables false

set_option maxHeartbeats 4000000 in
theorem hour_any (s : ByteArray) (w : World) (hE : Env w) (h0 : 0 < s.size) (hs : s.size ≤ 16384) : Calls Tryz.prog 43 #[.string s] w (TokOut (hrV (bl s)) w) := by
  have hk := spn_le inH ((bl s).drop 1)
  rw [List.length_drop, bl_size] at hk
  have c1 := Lib.hid (fun w => span_inHour (s.extract 1 s.size) w (by rw [ByteArray.size_extract]; omega))
  rw [bl_drop s 1] at c1
  have hz : hrSz (bl s) = 1 + spn inH ((bl s).drop 1) := rfl
  have hle : hrSz (bl s) ≤ s.size := by omega
  have he := tx_extract s 1 (hrSz (bl s)) hle
  have c2 := Lib.hid (fun w hT => parse_any (s.extract 1 (hrSz (bl s))) w hT (by rw [ByteArray.size_extract]; omega))
  rw [he] at c2
  unfold hrV
  obtain ⟨t, ht⟩ : ∃ t, s.extract 1 (hrSz (bl s)) = t := ⟨_, rfl⟩
  have hle1 : (1 : Int) ≤ (s.size : Int) := by omega
  have e1 : ∀ w, (Instr.slice 9 (.string s) (some (.int .i64 1)) none none).run Tryz.prog w = .ok (.string (s.extract 1 s.size)) w := fun w => run_slice_string_l w _ s Tryz.underlying9 .i64 1 (by omega) hle1
  rw [ht] at he
  rw [← he] at c2 ⊢
  clear he
  rw [hz] at ht hle ⊢
  generalize spn inH ((bl s).drop 1) = k at *
  have e2 : ∀ w, (Instr.slice 9 (.string s) (some (.int .i64 1)) (some (.int .i64 (1 + (k : Int)))) none).run Tryz.prog w = .ok (.string t) w := fun w => by
    rw [run_slice_string w _ s .i64 .i64 1 (1 + (k : Int)) Tryz.underlying9 (by omega) (by omega) (by omega), show (1 : Int).toNat = 1 from rfl, show (1 + (k : Int)).toNat = 1 + k by omega, ht]
  have K0 := Lib.hid (TkAt.new w z0)
  have B0 := Lib.hid ((Below.refl w.heap.size w).alloc (Nat.le_refl _) (.cells #[.int .i64 0, .string { data := #[] }, .int .i64 0, .int .i64 0] 25))
  have hT := Lib.hid (hE.alloc (.cells #[.int .i64 0, .string { data := #[] }, .int .i64 0, .int .i64 0] 25)).1
  clear ht hz hE
  generalize parseV t = V at *
  obtain ⟨v, r⟩ := V
  by_cases hr : r = 0
  · rw [if_neg (by simpa using hr)]
    have u1 : (r == 0) = true := by simp [hr]
    have u2 : (r != 0) = false := by simp [hr]
    subst hr
    go_enter Tryz.func43, Tryz.ntmps43
    go_wp2_with fail
    refine (c1.out _).mono ?_; rintro e w' ⟨rfl, rfl⟩
    go_wp2_with fail
    refine (c2.out _ hT.out).mono ?_; rintro e W1 ⟨rfl, hB⟩
    have K1 := Lib.hid (K0.out.keep hB)
    have B1 := Lib.hid (B0.out.trans (hB.mono B0.out.size))
    have B2 := Lib.hid (below_setTk B1.out (Nat.le_refl _) ⟨3, [], v, 0⟩)
    have K2 := K1.out
    have K3 := Lib.hid (K1.out.set ⟨3, [], v, 0⟩)
    clear K0 B0 hB
    obtain ⟨j0, ⟨j1, j2, j3, j4⟩, j5, j6, j7, j8⟩ := K2
    go_wp2_with fail
    have l1 : ((((W1.setCell ⟨w.heap.size, 0, none⟩ (.int .i64 3)).setCell ⟨w.heap.size, 1, none⟩ (.string { data := #[] })).setCell ⟨w.heap.size, 2, none⟩ (.int .i64 v)).setCell ⟨w.heap.size, 3, none⟩ (.int .i64 0)).cell? ⟨w.heap.size, 0, none⟩ = some (.int .i64 3) := K3.out.2.1.1
    have l2 : ((((W1.setCell ⟨w.heap.size, 0, none⟩ (.int .i64 3)).setCell ⟨w.heap.size, 1, none⟩ (.string { data := #[] })).setCell ⟨w.heap.size, 2, none⟩ (.int .i64 v)).setCell ⟨w.heap.size, 3, none⟩ (.int .i64 0)).cell? ⟨w.heap.size, 1, none⟩ = some (.string { data := #[] }) := K3.out.2.1.2.1
    have l3 : ((((W1.setCell ⟨w.heap.size, 0, none⟩ (.int .i64 3)).setCell ⟨w.heap.size, 1, none⟩ (.string { data := #[] })).setCell ⟨w.heap.size, 2, none⟩ (.int .i64 v)).setCell ⟨w.heap.size, 3, none⟩ (.int .i64 0)).cell? ⟨w.heap.size, 2, none⟩ = some (.int .i64 v) := K3.out.2.1.2.2.1
    have l4 : ((((W1.setCell ⟨w.heap.size, 0, none⟩ (.int .i64 3)).setCell ⟨w.heap.size, 1, none⟩ (.string { data := #[] })).setCell ⟨w.heap.size, 2, none⟩ (.int .i64 v)).setCell ⟨w.heap.size, 3, none⟩ (.int .i64 0)).cell? ⟨w.heap.size, 3, none⟩ = some (.int .i64 0) := K3.out.2.1.2.2.2
    have l5 : Below w.heap.size w ((((W1.setCell ⟨w.heap.size, 0, none⟩ (.int .i64 3)).setCell ⟨w.heap.size, 1, none⟩ (.string { data := #[] })).setCell ⟨w.heap.size, 2, none⟩ (.int .i64 v)).setCell ⟨w.heap.size, 3, none⟩ (.int .i64 0)) := B2.out
    clear K1 K3 B1 B2 j0 j1 j2 j3 j4 j5 j6 j7 j8
    generalize (((W1.setCell ⟨w.heap.size, 0, none⟩ (.int .i64 3)).setCell ⟨w.heap.size, 1, none⟩ (.string { data := #[] })).setCell ⟨w.heap.size, 2, none⟩ (.int .i64 v)).setCell ⟨w.heap.size, 3, none⟩ (.int .i64 0) = W9 at *
    exact bodyPost_ret (v := .tuple #[.agg #[.int .i64 3, .string { data := #[] }, .int .i64 v, .int .i64 0], .int .i64 (1 + (k : Int)), .int .i64 0]) (by simp [results, Tryz.results43, go_sem, l1, l2, l3, l4]) rfl ⟨by rw [show ((1 + k : Nat) : Int) = 1 + (k : Int) by omega]; rfl, l5⟩
  · rw [if_pos (by simpa using hr)]
    have u1 : (r == 0) = false := by simp [hr]
    have u2 : (r != 0) = true := by simp [hr]
    clear hr
    go_enter Tryz.func43, Tryz.ntmps43
    go_wp2_with fail
    refine (c1.out _).mono ?_; rintro e w' ⟨rfl, rfl⟩
    go_wp2_with fail
    refine (c2.out _ hT.out).mono ?_; rintro e W1 ⟨rfl, hB⟩
    have K1 := Lib.hid (K0.out.keep hB)
    have B1 := Lib.hid (B0.out.trans (hB.mono B0.out.size))
    have B2 := Lib.hid (below_setTk B1.out (Nat.le_refl _) z0)
    have K2 := K1.out
    have K3 := Lib.hid (K1.out.set z0)
    clear K0 B0 hB
    obtain ⟨j0, ⟨j1, j2, j3, j4⟩, j5, j6, j7, j8⟩ := K2
    go_wp2_with fail
    have l1 : ((((W1.setCell ⟨w.heap.size, 0, none⟩ (.int .i64 0)).setCell ⟨w.heap.size, 1, none⟩ (.string { data := #[] })).setCell ⟨w.heap.size, 2, none⟩ (.int .i64 0)).setCell ⟨w.heap.size, 3, none⟩ (.int .i64 0)).cell? ⟨w.heap.size, 0, none⟩ = some (.int .i64 0) := K3.out.2.1.1
    have l2 : ((((W1.setCell ⟨w.heap.size, 0, none⟩ (.int .i64 0)).setCell ⟨w.heap.size, 1, none⟩ (.string { data := #[] })).setCell ⟨w.heap.size, 2, none⟩ (.int .i64 0)).setCell ⟨w.heap.size, 3, none⟩ (.int .i64 0)).cell? ⟨w.heap.size, 1, none⟩ = some (.string { data := #[] }) := K3.out.2.1.2.1
    have l3 : ((((W1.setCell ⟨w.heap.size, 0, none⟩ (.int .i64 0)).setCell ⟨w.heap.size, 1, none⟩ (.string { data := #[] })).setCell ⟨w.heap.size, 2, none⟩ (.int .i64 0)).setCell ⟨w.heap.size, 3, none⟩ (.int .i64 0)).cell? ⟨w.heap.size, 2, none⟩ = some (.int .i64 0) := K3.out.2.1.2.2.1
    have l4 : ((((W1.setCell ⟨w.heap.size, 0, none⟩ (.int .i64 0)).setCell ⟨w.heap.size, 1, none⟩ (.string { data := #[] })).setCell ⟨w.heap.size, 2, none⟩ (.int .i64 0)).setCell ⟨w.heap.size, 3, none⟩ (.int .i64 0)).cell? ⟨w.heap.size, 3, none⟩ = some (.int .i64 0) := K3.out.2.1.2.2.2
    have l5 : Below w.heap.size w ((((W1.setCell ⟨w.heap.size, 0, none⟩ (.int .i64 0)).setCell ⟨w.heap.size, 1, none⟩ (.string { data := #[] })).setCell ⟨w.heap.size, 2, none⟩ (.int .i64 0)).setCell ⟨w.heap.size, 3, none⟩ (.int .i64 0)) := B2.out
    clear K1 K3 B1 B2 j0 j1 j2 j3 j4 j5 j6 j7 j8
    generalize (((W1.setCell ⟨w.heap.size, 0, none⟩ (.int .i64 0)).setCell ⟨w.heap.size, 1, none⟩ (.string { data := #[] })).setCell ⟨w.heap.size, 2, none⟩ (.int .i64 0)).setCell ⟨w.heap.size, 3, none⟩ (.int .i64 0) = W9 at *
    exact bodyPost_ret (v := .tuple #[.agg #[.int .i64 0, .string { data := #[] }, .int .i64 0, .int .i64 0], .int .i64 0, .int .i64 r]) (by simp [results, Tryz.results43, go_sem, l1, l2, l3, l4]) rfl ⟨rfl, l5⟩
end Go.Proofs.YtaengcbjpniclaaGreatDoor.Lx
