/- LexerLimits' walk: the longest text. -/
import Derived.Test.YtaengcbjpniclaaDoorLxWLim
namespace Go.Proofs.YtaengcbjpniclaaDoor.Lx
open Go.RowKit Go.Lib Go.Proofs.YtaengcbjpniclaaDoor.Bas Go.Proofs.YtaengcbjpniclaaDoor.Cal
set_option linter.unusedVariables false

/-- k blanks, then zeros. -/
def part (n k : Nat) : List Int := List.replicate k 32 ++ List.replicate (n - k) 0
theorem part_len (n k : Nat) (h : k ≤ n) : (part n k).length = n := by unfold part; simp; omega
theorem part_set (n k : Nat) (h : k < n) : (part n k).set k 32 = part n (k + 1) := by
  unfold part
  rw [List.set_append_right _ _ (by simp), show k - (List.replicate k (32 : Int)).length = 0 by simp]
  obtain ⟨m, hm⟩ : ∃ m, n - k = m + 1 := ⟨n - k - 1, by omega⟩
  rw [hm, List.replicate_succ, show n - (k + 1) = m by omega, List.replicate_succ']
  simp
theorem part_full (n : Nat) : part n n = List.replicate n 32 := by unfold part; simp
/-- Blanks of a slice as a text. -/
theorem blanks_back (w : World) (g o n c : Nat) (hn : 0 < n) (h : ∀ j, j < n → w.cell? ⟨g, o + j, none⟩ = some (.int .u8 32)) : (convert 27 9 (.slice (some ⟨g, o, none⟩) n c)).run Tryd.prog w = .ok (.string (rep n 32)) w := by
  have := run_convert_bytes_back w 27 9 5 ⟨g, o, none⟩ c (List.replicate n 32) Tryd.underlying27 Tryd.underlying5 Tryd.underlying9 (fun j hj => by
    rw [List.length_replicate] at hj
    rw [Go.WideShapes.add_plain, h j hj, List.getElem_replicate]
    rfl)
  rw [List.length_replicate] at this
  exact this
theorem info_u8 : ∃ i, Tryd.prog.info? 5 = some i ∧ i.zero = some (.int .u8 0) ∧ i.size = 1 ∧ i.bytes = 1 := by
  have h : (Tryd.prog.info? 5).map (fun i => (i.zero, i.size, i.bytes)) = some (some (.int .u8 0), 1, 1) := by kernel_rfl
  cases hh : Tryd.prog.info? 5 with
  | none => rw [hh] at h; simp at h
  | some i => rw [hh] at h; simp at h; exact ⟨i, rfl, h.1, h.2.1, h.2.2⟩
theorem u8_zeros (n : Nat) : madeCells (Value.int .u8 0).cells (n * 1) = Array.replicate n (Value.int .u8 0) := by
  apply Array.ext
  · simp [madeCells]
  · intro i h1 h2
    simp [madeCells, Value.cells, Nat.mod_one]
/-- make of n bytes, as one equation. -/
theorem u8_make (n : Nat) (hn : n ≤ 1048576) (W : World) : (Instr.makeSlice 27 (.int .i64 (n : Int)) (.int .i64 (n : Int))).run Tryd.prog W = .ok (.slice (some ⟨W.heap.size, 0, none⟩) n n) (W.alloc (.cells (Array.replicate n (Value.int .u8 0)) 5)) := by
  obtain ⟨i, hi, hz0, hz1, hz2⟩ := info_u8
  have h := run_make (P := Tryd.prog) W 27 5 i (.int .u8 0) Tryd.underlying27 hi hz0 .i64 .i64 (n : Int) (n : Int) (by omega) (Int.le_refl _) (by rw [hz2]; omega) (by omega)
  rw [Int.toNat_natCast, hz1, u8_zeros] at h
  exact h
theorem elem_u8 : Tryd.prog.elem 27 = 5 := by kernel_rfl
theorem tail_slice (g n : Nat) (h : 2 ≤ n) (W : World) : (Instr.slice 27 (.slice (some ⟨g, 0, none⟩) n n) (some (.int .i64 1)) none none).run Tryd.prog W = .ok (.slice (some ⟨g, 1, none⟩) (n - 1) (n - 1)) W := by
  rw [run_slice_l W 27 (some ⟨g, 0, none⟩) n n (by rw [elem_u8]; exact Tryd.underlying27) .i64 1 (by omega) (by omega), elem_u8]
  have hs : (sizeOf 5).run Tryd.prog W = .ok 1 W := by
    simp [sizeOf, go_sem]
    rfl
  rw [hs]
  simp [Result.andThen, sliced, Addr.add]
  omega
set_option maxRecDepth 8000 in
set_option maxHeartbeats 8000000 in
theorem lim_texts (b : Int) (w : World) (hE : Env w) (b1 : 0 ≤ b) (b2 : b ≤ 255) : Calls Tryd.prog 6 #[.bool false, .int .u8 b] w (BoolBe true w) := by
  obtain ⟨n6, hn6⟩ : ∃ n : Nat, n = 16384 := ⟨_, rfl⟩
  obtain ⟨m, hm⟩ : ∃ m, b % 5 = m := ⟨_, rfl⟩
  have hmt : b.tmod 5 = m := by rw [Int.tmod_eq_emod_of_nonneg b1]; exact hm
  obtain ⟨c, hc, hidx⟩ := mark_at m (by omega) (by omega)
  have hE1 := Lib.hid (hE.alloc (.cells #[.int .u8 (c.toNat : Int)] 5))
  have B1 := Lib.hid ((Below.refl w.heap.size w).alloc (Nat.le_refl _) (.cells #[.int .u8 (c.toNat : Int)] 5))
  have hcell : (w.alloc (.cells #[.int .u8 (c.toNat : Int)] 5)).cell? ⟨w.heap.size, 0, none⟩ = some (.int .u8 (c.toNat : Int)) := by simp
  have hlt : w.heap.size < (w.alloc (.cells #[.int .u8 (c.toNat : Int)] 5)).heap.size := by simp
  clear hE
  have hempty := Lib.hid (show ({ data := #[] } : ByteArray) = rep 0 c from rfl)
  have hsz := Lib.hid (fun n => rep_size n c)
  have aone := Lib.hid (fun n w hn => rep_one n c Tryd.prog w hn)
  have hb := Lib.hid (byte_back _ _ c hcell)
  have hbW := Lib.hid (fun W (hB : Below (w.alloc (.cells #[.int .u8 (c.toNat : Int)] 5)).heap.size (w.alloc (.cells #[.int .u8 (c.toNat : Int)] 5)) W) => byte_back W w.heap.size c (by rw [hB.cell (p := ⟨w.heap.size, 0, none⟩) hlt]; exact hcell))
  have cA := Lib.hid awake_any
  clear hcell hlt
  go_enter Tryd.func6, Tryd.ntmps6
  go_wp2_with fail
  clear hidx hm hmt b1 b2
  have hb' := hb.out
  generalize w.alloc (.cells #[.int .u8 (c.toNat : Int)] 5) = W1 at *
  go_loop [6] (fun s => ∃ k : Nat, k ≤ 500 ∧ s = .string (rep k c)) (fun s => 500 - strSz s)
  case atStart => exact ⟨0, by omega, by rw [hempty.out]⟩
  case round =>
    obtain ⟨k, hk, rfl⟩ := hrel
    have hk1 := hsz.out k
    by_cases hlt : k < 500
    · have hadd := aone.out k W1 (by omega)
      have u1 : decide ((k : Int) < 500) = true := by simp; omega
      have u2 : decide (k < 500) = true := by simp; omega
      have hk2 := Lib.hid (hsz.out (k + 1))
      go_wp2_with fail
      go_round
      case rel => exact ⟨k + 1, by omega, rfl⟩
      case measure =>
        simp only [strSz]
        have := hk2.out
        simp
        omega
    · obtain rfl : k = 500 := by omega
      clear hb' hlt hk
      have hmk := u8_make n6 (by omega)
      rw [show (n6 : Int) = 16384 by omega] at hmk
      have hn6' := Lib.hid hn6
      clear hn6
      go_wp2_with fail
      have R0 := Lib.hid (Row.made (t := 5) (k := .u8) W1 n6 (by have := hn6'.out; unfold maxLen; omega))
      rw [show List.replicate n6 (0 : Int) = part n6 0 by unfold part; simp] at R0
      have BW0 := Lib.hid ((Below.refl W1.heap.size W1).alloc (Nat.le_refl _) (.cells (Array.replicate n6 (Value.int .u8 0)) 5))
      have hplen := Lib.hid (part_len n6)
      have hpset := Lib.hid (part_set n6)
      generalize W1.alloc (.cells (Array.replicate n6 (Value.int .u8 0)) 5) = W2 at *
      generalize hg : W1.heap.size = g at *
      have hg' := Lib.hid hg
      clear hg hmk
      go_loopw [14] (fun i wr => ∃ k : Nat, k ≤ n6 ∧ i = .int .i64 k ∧ Hid (Row 5 .u8 g wr (.slice (some ⟨g, 0, none⟩) n6 n6) (part n6 k)) ∧ Hid (Below g W1 wr)) (fun i _ => n6 - (RowKit.intOf i).toNat)
      case atStart => exact ⟨0, Nat.zero_le _, rfl, R0, BW0⟩
      case round =>
        obtain ⟨k, hk, rfl, hR, hB⟩ := hrel
        by_cases hlt : k < n6
        · have hpl := hplen.out k hk
          obtain ⟨p1, c1, hv1, hcs⟩ := hR.out.shape
          rw [hpl] at hcs hv1
          obtain ⟨g1, hp1, _, _, hcc⟩ := hcs (by omega)
          have hcell := hcc k hlt
          have hfz := hR.out.frozen k
          obtain rfl : p1 = some ⟨g, 0, none⟩ := by cases hv1; rfl
          obtain rfl : g1 = g := by cases hp1; rfl
          have R1 := Lib.hid (hR.out.store k 32)
          rw [hpset.out k hlt] at R1
          have B1k := Lib.hid (hB.out.setCell (p := ⟨g1, k, none⟩) (Nat.le_refl _) (.int .u8 32))
          have hle : n6 ≤ 16384 := by have := hn6'.out; omega
          clear hv1 hcs hp1 hcc hpl
          generalize (part n6 k).getD k 0 = zk at *
          go_wp2_with fail
          go_roundw
          case rel => exact ⟨k + 1, by omega, by go_num, R1, B1k⟩
          case measure => simp [RowKit.intOf]; omega
        · obtain rfl : k = n6 := by omega
          go_wp2_with fail
          have hk6 := hn6'.out
          obtain ⟨p1, c1, hv1, hcs⟩ := hR.out.shape
          rw [hplen.out k hk] at hcs hv1
          obtain ⟨g1, hp1, _, _, hcc⟩ := hcs (by omega)
          obtain rfl : p1 = some ⟨g, 0, none⟩ := by cases hv1; rfl
          obtain rfl : g1 = g := by cases hp1; rfl
          rw [part_full] at hcc
          have hcc2 : ∀ j, j < k → wr.cell? ⟨g1, j, none⟩ = some (.int .u8 32) := fun j hj => by rw [hcc j hj, List.getD_eq_getElem?_getD, List.getElem?_replicate, if_pos hj]; rfl
          obtain ⟨n1, hn1⟩ : ∃ n, k - 1 = n := ⟨_, rfl⟩
          have hsl : ∀ W, (Instr.slice 27 (.slice (some ⟨g1, 0, none⟩) k k) (some (.int .i64 1)) none none).run Tryd.prog W = .ok (.slice (some ⟨g1, 1, none⟩) n1 n1) W := fun W => by rw [← hn1]; exact tail_slice g1 k (by omega) W
          have hcv1 : (convert 27 9 (.slice (some ⟨g1, 1, none⟩) n1 n1)).run Tryd.prog wr.drew = .ok (.string (rep n1 32)) wr.drew := blanks_back wr.drew g1 1 n1 n1 (by omega) (fun j hj => hcc2 (1 + j) (by omega))
          have hcv2 := Lib.hid (fun W (hW : Below wr.heap.size wr W) => blanks_back W g1 0 k k (by omega) (fun j hj => by rw [Nat.zero_add, hW.cell (p := ⟨g1, j, none⟩) (World.block_lt_of_cell? _ _ (hcc2 j hj))]; exact hcc2 j hj))
          have hcv3 : (convert 27 9 (.slice (some ⟨w.heap.size, 0, none⟩) 1 1)).run Tryd.prog wr.drew = .ok (.string (tx [c])) wr.drew := hbW.out _ (below_drewN hB.out 1)
          have hcv4 := Lib.hid (fun W (hW : Below wr.heap.size wr W) => hbW.out W (hB.out.trans (hW.mono (by have := hB.out.size; rw [hg'.out] at this; exact this))))
          obtain ⟨q3, hq3⟩ : ∃ q, tx (List.replicate n1 32 ++ [c]) = q := ⟨_, rfl⟩
          obtain ⟨q4, hq4⟩ : ∃ q, tx (List.replicate k 32 ++ [c]) = q := ⟨_, rfl⟩
          have a3 : ∀ w, (Op.stringOp .add (rep n1 32) (tx [c])).run Tryd.prog w = .ok (.string q3) w := fun w => by rw [← hq3]; exact tx_addN (List.replicate n1 32) [c] _ w (by simp; omega)
          have a4 : ∀ w, (Op.stringOp .add (rep k 32) (tx [c])).run Tryd.prog w = .ok (.string q4) w := fun w => by rw [← hq4]; exact tx_addN (List.replicate k 32) [c] _ w (by simp; omega)
          have c3 := Lib.hid (fun w hE => scan_any q3 w hE (by rw [← hq3, tx_size]; simp; omega))
          have c4 := Lib.hid (fun w hE => scan_any q4 w hE (by rw [← hq4, tx_size]; simp; omega))
          rw [← hq3, show bl (tx (List.replicate n1 32 ++ [c])) = List.replicate n1 32 ++ [c] from rfl, lim_text c hc n1 (by omega), hq3] at c3
          rw [← hq4, show bl (tx (List.replicate k 32 ++ [c])) = List.replicate k 32 ++ [c] from rfl, lim_long c k hk6, hq4] at c4
          have B9 := Lib.hid (B1.out.trans (hB.out.mono (by rw [← hg'.out]; exact B1.out.size)))
          have E9 := Lib.hid (hE1.out.keep (by rw [hg'.out]; exact hB.out))
          have hn1' := Lib.hid (show n1 = 16383 by omega)
          have hk6' := Lib.hid hk6
          generalize tx [c] = q0 at *
          clear hv1 hcs hp1 hcc hcc2 hn1 hk6 hq3 hq4 hc hlt
          go_cut [15, 16, 17] (fun x15 x16 x17 wx => (∃ u, x15 = u ∧ TRow wr.heap.size wx u [⟨4, [c], 0, (n1 : Int)⟩]) ∧ x16 = .int .i64 0 ∧ x17 = .int .i64 0 ∧ Below wr.heap.size wr wx)
          case first =>
            go_region_with (refine (c3.out _ (Env.drew E9.out)).mono ?_; rintro e w' ⟨u, rfl, hRx, hBx⟩)
            all_goals
              go_wp2_with fail
              go_meet
              case rel => exact ⟨⟨u, rfl, hRx⟩, rfl, rfl, ⟨hBx.os, hBx.tape, hBx.output, hBx.size, hBx.block⟩⟩
          case rest =>
            obtain ⟨⟨u, rfl, hR1⟩, rfl, rfl, hBc⟩ := hcut
            obtain ⟨p1, c1, rfl, _, hp⟩ := hR1.at
            obtain ⟨b5, off, rfl, hc5⟩ := hp (by simp)
            have q3' : wc.cell? ⟨b5, off + 3, none⟩ = some (.int .i64 n1) := by have := (hc5 0 (by simp)).2.2.2; simpa [tk] using this
            have hcva := hcv2.out wc hBc
            have hcvb := hcv4.out wc hBc
            have hEc := Lib.hid (E9.out.keep hBc)
            have B10 := Lib.hid (B9.out.trans (hBc.mono B9.out.size))
            have q5 := Lib.hid q3'
            clear hR1 hp hc5 hBc q3' hcv3 hcv1
            go_wp2_with fail
            refine (c4.out _ hEc.out).mono ?_; rintro e W5 ⟨u2, rfl, hR2, hB2⟩
            obtain ⟨p2, c2, rfl, _, _⟩ := hR2.at
            have hE5 := Lib.hid (hEc.out.keep hB2)
            have B11 := Lib.hid (B10.out.trans (hB2.mono B10.out.size))
            have q6 : W5.cell? ⟨b5, off + 3, none⟩ = some (.int .i64 n1) := by rw [hB2.cell (p := ⟨b5, off + 3, none⟩) (World.block_lt_of_cell? _ _ q5.out)]; exact q5.out
            have hn1e : ((n1 : Int) == 16383) = true := by have := hn1'.out; simp; omega
            have hn1e' : (n1 == 16383) = true := by have := hn1'.out; simp; omega
            clear hR2 hB2 hcva hcvb
            go_wp2_with fail
            refine (cA.out _ hE5.out).mono ?_; rintro e W6 ⟨rfl, hB3⟩
            have B12 := Lib.hid (B11.out.trans (hB3.mono B11.out.size))
            clear hB3
            go_wp2_with fail
            go_ret
            exact ⟨rfl, B12.out⟩
end Go.Proofs.YtaengcbjpniclaaDoor.Lx
