/- LexerSpaces' walk. -/
import Derived.Test.YtaengcbjpniclaaDoorLxSpc
import Derived.Test.YtaengcbjpniclaaDoorLxOpen8
import Derived.Test.YtaengcbjpniclaaDoorLxWBack
import Derived.Test.YtaengcbjpniclaaDoorLxRJoin
namespace Go.Proofs.YtaengcbjpniclaaDoor.Lx
open Go.RowKit Go.Lib Go.Proofs.YtaengcbjpniclaaDoor.Bas Go.Proofs.YtaengcbjpniclaaDoor.Cal Go.Proofs.YtaengcbjpniclaaDoor.Spl Go.Proofs.YtaengcbjpniclaaDoor.Dk
set_option linter.unusedVariables false

theorem elem_tok : Tryd.prog.elem 30 = 42 := by kernel_rfl
/-- A slice of one token. -/
theorem one_slice (b off n c k : Nat) (h : k < n) (hc : n ≤ c) (W : World) : (Instr.slice 30 (.slice (some ⟨b, off, none⟩) n c) (some (.int .i64 (k : Int))) (some (.int .i64 ((k : Int) + 1))) none).run Tryd.prog W = .ok (.slice (some ⟨b, off + k * 4, none⟩) 1 (c - k)) W := by
  rw [run_slice_lh W 30 (some ⟨b, off, none⟩) n c (by rw [elem_tok]; exact Tryd.underlying30) .i64 .i64 (k : Int) ((k : Int) + 1) (by omega) (by omega) (by omega), elem_tok]
  have hs : (sizeOf 42).run Tryd.prog W = .ok 4 W := by
    simp [sizeOf, go_sem]
    rfl
  rw [hs, show ((k : Int) + 1).toNat = k + 1 by omega, Int.toNat_natCast]
  have hne : ¬ c = k := by omega
  simp [Result.andThen, sliced, Addr.add, hne, show k + 1 - k = 1 by omega]
theorem one_at {w : World} {b off n c : Nat} {L : List Tk} (k : Nat) (hk : k < L.length) (hc : L.length ≤ c) (h : ∀ j, j < L.length → w.cell? ⟨b, off + j * 4, none⟩ = some (.int .i64 (tk L j).k) ∧ w.cell? ⟨b, off + j * 4 + 1, none⟩ = some (.string (tx (tk L j).t)) ∧ w.cell? ⟨b, off + j * 4 + 2, none⟩ = some (.int .i64 (tk L j).n) ∧ w.cell? ⟨b, off + j * 4 + 3, none⟩ = some (.int .i64 (tk L j).p)) :
    TksAt w (.slice (some ⟨b, off + k * 4, none⟩) 1 (c - k)) [tk L k] :=
  ⟨_, _, rfl, ⟨by simp; omega, fun e => by cases e⟩, fun _ => ⟨b, off + k * 4, rfl, fun j hj => by
    obtain rfl : j = 0 := by simpa using hj
    simpa [tk] using h k hk⟩⟩
theorem take_snoc (L : List Tk) (k : Nat) (h : k < L.length) : L.take (k + 1) = L.take k ++ [tk L k] := by
  rw [List.take_add_one, List.getElem?_eq_getElem h, tk_at L k h]; rfl
set_option maxRecDepth 8000 in
set_option maxHeartbeats 16000000 in
theorem spacesW (v : Value) (l : List Int) (vh : Value) (lh : List Int) (w : World) (hE : Env w) (hI : IntsAt w v l) (hl : l.length ≤ 9223372036854775807) (hw : ∀ x ∈ l, -9223372036854775808 ≤ x ∧ x ≤ 9223372036854775807)
    (hH : NumsAt .u8 w vh lh) (hlh : lh.length ≤ 9223372036854775807) (hwh : ∀ x ∈ lh, 0 ≤ x ∧ x ≤ 255) :
    Calls Tryd.prog 5 #[v, vh] w (BoolBe true w) := by
  have cT := Lib.hid (toks_any v l w hI hl hw)
  have hE' := Lib.hid hE
  have cA := Lib.hid awake_any
  have hH' := Lib.hid hH
  have hwh' := Lib.hid hwh
  obtain ⟨ph, ch, rfl, hph⟩ := hH
  obtain ⟨nh, hnh⟩ : ∃ n, lh.length = n := ⟨_, rfl⟩
  have hnh' := Lib.hid hnh
  rw [hnh] at hlh hH' ⊢
  clear hI hl hw hE hwh hph hnh
  go_enter Tryd.func5, Tryd.ntmps5
  go_wp2_with fail
  refine cT.out.mono ?_; rintro e W1 ⟨u, L, rfl, hv, hL, hR, hB⟩
  have E1 := Lib.hid (hE'.out.keep hB)
  have B1 := Lib.hid hB
  have T1 := Lib.hid hR.at
  have H1 := Lib.hid (nums_below hH'.out hB)
  have hv' := Lib.hid hv
  obtain ⟨p0, c0, hv0, hcap, hpp⟩ := hR.at
  subst hv0
  have hpp' := Lib.hid hpp
  have hcap' := Lib.hid hcap
  obtain ⟨n, hn⟩ : ∃ n, L.length = n := ⟨_, rfl⟩
  have hn' := Lib.hid hn
  have hempty := Lib.hid (show ({ data := #[] } : ByteArray) = tx [] from rfl)
  have cR := Lib.hid rjoin_any
  rw [hn] at hL T1
  clear cT hB hR hv hE' hH' hpp hcap
  go_wp2_with fail
  clear hn
  go_loopw [6, 7] (fun x6 x7 wr => ∃ (k : Nat) (s : List UInt8), x7 = .int .i64 k ∧ x6 = .string (tx s) ∧ k ≤ n ∧ s.length ≤ 32 * k ∧ Hid (SoFar s (L.take k)) ∧ Hid (Below W1.heap.size W1 wr)) (fun _ i _ => n - (RowKit.intOf i).toNat)
  case atStart => exact ⟨0, [], rfl, by rw [hempty.out], Nat.zero_le _, by simp, Lib.hid soFar_nil, Lib.hid (Below.refl _ _)⟩
  case round =>
    obtain ⟨k, s, rfl, rfl, hk, hs, hF, hB⟩ := hrel
    by_cases hlt : k < n
    · obtain ⟨b, off, hpb, hc⟩ := hpp'.out (by rw [hn'.out]; omega)
      subst hpb
      have hcw : ∀ j, j < L.length → wr.cell? ⟨b, off + j * 4, none⟩ = some (.int .i64 (tk L j).k) ∧ wr.cell? ⟨b, off + j * 4 + 1, none⟩ = some (.string (tx (tk L j).t)) ∧ wr.cell? ⟨b, off + j * 4 + 2, none⟩ = some (.int .i64 (tk L j).n) ∧ wr.cell? ⟨b, off + j * 4 + 3, none⟩ = some (.int .i64 (tk L j).p) := fun j hj => by
        have hlb : b < W1.heap.size := World.block_lt_of_cell? _ _ (hc 0 (by omega)).1
        rw [hB.out.cell (p := ⟨b, off + j * 4, none⟩) hlb, hB.out.cell (p := ⟨b, off + j * 4 + 1, none⟩) hlb, hB.out.cell (p := ⟨b, off + j * 4 + 2, none⟩) hlb, hB.out.cell (p := ⟨b, off + j * 4 + 3, none⟩) hlb]
        exact hc j hj
      have hkL : k < L.length := by rw [hn'.out]; exact hlt
      have hcL : L.length ≤ c0 := hcap'.out.1
      have hok : wrE (tk L k) = 0 := hv'.out _ (by rw [tk_at L k hkL]; exact List.getElem_mem _)
      have h1 := one_at (n := n) k hkL hcL hcw
      have cJ := Lib.hid (cR.out _ [tk L k] wr h1 (fun t ht => by
        have : t = tk L k := by simpa using ht
        rw [this]; exact val_len L hv'.out _ (by rw [tk_at L k hkL]; exact List.getElem_mem _)) (by simp))
      rw [join_one _ hok] at cJ
      have hsl := one_slice b off n c0 k hlt (by rw [← hn'.out]; exact hcL)
      have hstep := Lib.hid (fun p (hp : Fill p) => soFar_step s p (L.take k) (tk L k) hF.out hp hok (by rw [List.length_take]; omega))
      rw [← take_snoc L k hkL] at hstep
      have hwl := wr_len _ hok
      have HH := Lib.hid (nums_below H1.out hB.out)
      clear hc hcw h1 hcL hok hF hkL
      generalize Lx.wr (tk L k) = q at *
      have hk64 : IntKind.i64.wrap ((k : Int) + 1) = (k : Int) + 1 := IntWalk.i64_in _ (by omega)
      go_wp2_with fail
      refine cJ.out.mono ?_; rintro e W2 ⟨rfl, hB2⟩
      have B2 := Lib.hid (hB.out.trans (hB2.mono hB.out.size))
      have H2 := Lib.hid (nums_below HH.out hB2)
      clear hB2 hB cJ HH hsl
      by_cases hkh : k < nh
      · have u1 : decide ((k : Int) < (nh : Int)) = true := by simp; omega
        obtain ⟨p3, c3, hv3, hp3⟩ := H2.out
        obtain ⟨b3, o3, hpb3, hc3⟩ := hp3 (by rw [hnh'.out]; omega)
        obtain rfl : p3 = ph := by cases hv3; rfl
        subst hpb3
        have hz := hc3 k (by rw [hnh'.out]; exact hkh)
        have hzb := hwh'.out _ (Spl.getD_mem (l := lh) (k := k) (by rw [hnh'.out]; exact hkh))
        have hz1 := hzb.1
        have hz2 := hzb.2
        clear hv3 hp3 hc3 hzb
        generalize lh.getD k 0 = z at *
        obtain ⟨m, hm⟩ : ∃ m, z % 5 = m := ⟨_, rfl⟩
        have hmt : z.tmod 5 = m := by rw [Int.tmod_eq_emod_of_nonneg hz1]; exact hm
        have hm5 : m = 0 ∨ m = 1 ∨ m = 2 ∨ m = 3 ∨ m = 4 := by omega
        rcases hm5 with rfl | rfl | rfl | rfl | rfl
        · have a1 : ∀ w, (Op.stringOp .add (tx s) { data := #[32] }).run Tryd.prog w = .ok (.string (tx (s ++ [32]))) w := fun w => tx_cat s [32] _ w (by simp; omega)
          have a2 : ∀ w, (Op.stringOp .add (tx (s ++ [32])) (tx q)).run Tryd.prog w = .ok (.string (tx (s ++ [32] ++ q))) w := fun w => tx_cat _ q _ w (by simp; omega)
          have hF2 := Lib.hid (hstep.out [32] fill_1)
          have hl2 : (s ++ [32] ++ q).length ≤ 32 * (k + 1) := by simp; omega
          have B3 := Lib.hid (B2.out.alloc B2.out.size (.cells #[.string { data := #[32] }, .string { data := #[10] }, .string { data := #[32, 32, 32] }, .string { data := #[32, 35, 32, 97, 32, 40, 32, 48, 48, 55, 10] }, .string { data := #[10, 10, 32] }] 9))
          obtain ⟨f1, hf1⟩ : ∃ f, tx (s ++ [32]) = f := ⟨_, rfl⟩
          obtain ⟨f2, hf2⟩ : ∃ f, tx (s ++ [32] ++ q) = f := ⟨_, rfl⟩
          rw [hf1] at a1 a2
          rw [hf2] at a2
          have hf2' := Lib.hid hf2
          clear hf1 hf2 hstep
          go_wp2_with fail
          go_roundw
          case rel => exact ⟨k + 1, s ++ [32] ++ q, by go_num, by rw [hf2'.out], by omega, hl2, hF2, B3⟩
          case measure => simp [RowKit.intOf]; omega
        · have a1 : ∀ w, (Op.stringOp .add (tx s) { data := #[10] }).run Tryd.prog w = .ok (.string (tx (s ++ [10]))) w := fun w => tx_cat s [10] _ w (by simp; omega)
          have a2 : ∀ w, (Op.stringOp .add (tx (s ++ [10])) (tx q)).run Tryd.prog w = .ok (.string (tx (s ++ [10] ++ q))) w := fun w => tx_cat _ q _ w (by simp; omega)
          have hF2 := Lib.hid (hstep.out [10] fill_2)
          have hl2 : (s ++ [10] ++ q).length ≤ 32 * (k + 1) := by simp; omega
          have B3 := Lib.hid (B2.out.alloc B2.out.size (.cells #[.string { data := #[32] }, .string { data := #[10] }, .string { data := #[32, 32, 32] }, .string { data := #[32, 35, 32, 97, 32, 40, 32, 48, 48, 55, 10] }, .string { data := #[10, 10, 32] }] 9))
          obtain ⟨f1, hf1⟩ : ∃ f, tx (s ++ [10]) = f := ⟨_, rfl⟩
          obtain ⟨f2, hf2⟩ : ∃ f, tx (s ++ [10] ++ q) = f := ⟨_, rfl⟩
          rw [hf1] at a1 a2
          rw [hf2] at a2
          have hf2' := Lib.hid hf2
          clear hf1 hf2 hstep
          go_wp2_with fail
          go_roundw
          case rel => exact ⟨k + 1, s ++ [10] ++ q, by go_num, by rw [hf2'.out], by omega, hl2, hF2, B3⟩
          case measure => simp [RowKit.intOf]; omega
        · have a1 : ∀ w, (Op.stringOp .add (tx s) { data := #[32, 32, 32] }).run Tryd.prog w = .ok (.string (tx (s ++ [32, 32, 32]))) w := fun w => tx_cat s [32, 32, 32] _ w (by simp; omega)
          have a2 : ∀ w, (Op.stringOp .add (tx (s ++ [32, 32, 32])) (tx q)).run Tryd.prog w = .ok (.string (tx (s ++ [32, 32, 32] ++ q))) w := fun w => tx_cat _ q _ w (by simp; omega)
          have hF2 := Lib.hid (hstep.out [32, 32, 32] fill_3)
          have hl2 : (s ++ [32, 32, 32] ++ q).length ≤ 32 * (k + 1) := by simp; omega
          have B3 := Lib.hid (B2.out.alloc B2.out.size (.cells #[.string { data := #[32] }, .string { data := #[10] }, .string { data := #[32, 32, 32] }, .string { data := #[32, 35, 32, 97, 32, 40, 32, 48, 48, 55, 10] }, .string { data := #[10, 10, 32] }] 9))
          obtain ⟨f1, hf1⟩ : ∃ f, tx (s ++ [32, 32, 32]) = f := ⟨_, rfl⟩
          obtain ⟨f2, hf2⟩ : ∃ f, tx (s ++ [32, 32, 32] ++ q) = f := ⟨_, rfl⟩
          rw [hf1] at a1 a2
          rw [hf2] at a2
          have hf2' := Lib.hid hf2
          clear hf1 hf2 hstep
          go_wp2_with fail
          go_roundw
          case rel => exact ⟨k + 1, s ++ [32, 32, 32] ++ q, by go_num, by rw [hf2'.out], by omega, hl2, hF2, B3⟩
          case measure => simp [RowKit.intOf]; omega
        · have a1 : ∀ w, (Op.stringOp .add (tx s) { data := #[32, 35, 32, 97, 32, 40, 32, 48, 48, 55, 10] }).run Tryd.prog w = .ok (.string (tx (s ++ [32, 35, 32, 97, 32, 40, 32, 48, 48, 55, 10]))) w := fun w => tx_cat s [32, 35, 32, 97, 32, 40, 32, 48, 48, 55, 10] _ w (by simp; omega)
          have a2 : ∀ w, (Op.stringOp .add (tx (s ++ [32, 35, 32, 97, 32, 40, 32, 48, 48, 55, 10])) (tx q)).run Tryd.prog w = .ok (.string (tx (s ++ [32, 35, 32, 97, 32, 40, 32, 48, 48, 55, 10] ++ q))) w := fun w => tx_cat _ q _ w (by simp; omega)
          have hF2 := Lib.hid (hstep.out [32, 35, 32, 97, 32, 40, 32, 48, 48, 55, 10] fill_4)
          have hl2 : (s ++ [32, 35, 32, 97, 32, 40, 32, 48, 48, 55, 10] ++ q).length ≤ 32 * (k + 1) := by simp; omega
          have B3 := Lib.hid (B2.out.alloc B2.out.size (.cells #[.string { data := #[32] }, .string { data := #[10] }, .string { data := #[32, 32, 32] }, .string { data := #[32, 35, 32, 97, 32, 40, 32, 48, 48, 55, 10] }, .string { data := #[10, 10, 32] }] 9))
          obtain ⟨f1, hf1⟩ : ∃ f, tx (s ++ [32, 35, 32, 97, 32, 40, 32, 48, 48, 55, 10]) = f := ⟨_, rfl⟩
          obtain ⟨f2, hf2⟩ : ∃ f, tx (s ++ [32, 35, 32, 97, 32, 40, 32, 48, 48, 55, 10] ++ q) = f := ⟨_, rfl⟩
          rw [hf1] at a1 a2
          rw [hf2] at a2
          have hf2' := Lib.hid hf2
          clear hf1 hf2 hstep
          go_wp2_with fail
          go_roundw
          case rel => exact ⟨k + 1, s ++ [32, 35, 32, 97, 32, 40, 32, 48, 48, 55, 10] ++ q, by go_num, by rw [hf2'.out], by omega, hl2, hF2, B3⟩
          case measure => simp [RowKit.intOf]; omega
        · have a1 : ∀ w, (Op.stringOp .add (tx s) { data := #[10, 10, 32] }).run Tryd.prog w = .ok (.string (tx (s ++ [10, 10, 32]))) w := fun w => tx_cat s [10, 10, 32] _ w (by simp; omega)
          have a2 : ∀ w, (Op.stringOp .add (tx (s ++ [10, 10, 32])) (tx q)).run Tryd.prog w = .ok (.string (tx (s ++ [10, 10, 32] ++ q))) w := fun w => tx_cat _ q _ w (by simp; omega)
          have hF2 := Lib.hid (hstep.out [10, 10, 32] fill_5)
          have hl2 : (s ++ [10, 10, 32] ++ q).length ≤ 32 * (k + 1) := by simp; omega
          have B3 := Lib.hid (B2.out.alloc B2.out.size (.cells #[.string { data := #[32] }, .string { data := #[10] }, .string { data := #[32, 32, 32] }, .string { data := #[32, 35, 32, 97, 32, 40, 32, 48, 48, 55, 10] }, .string { data := #[10, 10, 32] }] 9))
          obtain ⟨f1, hf1⟩ : ∃ f, tx (s ++ [10, 10, 32]) = f := ⟨_, rfl⟩
          obtain ⟨f2, hf2⟩ : ∃ f, tx (s ++ [10, 10, 32] ++ q) = f := ⟨_, rfl⟩
          rw [hf1] at a1 a2
          rw [hf2] at a2
          have hf2' := Lib.hid hf2
          clear hf1 hf2 hstep
          go_wp2_with fail
          go_roundw
          case rel => exact ⟨k + 1, s ++ [10, 10, 32] ++ q, by go_num, by rw [hf2'.out], by omega, hl2, hF2, B3⟩
          case measure => simp [RowKit.intOf]; omega
      · have u1 : decide ((k : Int) < (nh : Int)) = false := by simp; omega
        have a1 : ∀ w, (Op.stringOp .add (tx s) { data := #[32] }).run Tryd.prog w = .ok (.string (tx (s ++ [32]))) w := fun w => tx_cat s [32] _ w (by simp; omega)
        have a2 : ∀ w, (Op.stringOp .add (tx (s ++ [32])) (tx q)).run Tryd.prog w = .ok (.string (tx (s ++ [32] ++ q))) w := fun w => tx_cat _ q _ w (by simp; omega)
        have hF2 := Lib.hid (hstep.out [32] fill_1)
        have hl2 : (s ++ [32] ++ q).length ≤ 32 * (k + 1) := by simp; omega
        have B3 := Lib.hid (B2.out.alloc B2.out.size (.cells #[.string { data := #[32] }, .string { data := #[10] }, .string { data := #[32, 32, 32] }, .string { data := #[32, 35, 32, 97, 32, 40, 32, 48, 48, 55, 10] }, .string { data := #[10, 10, 32] }] 9))
        obtain ⟨f1, hf1⟩ : ∃ f, tx (s ++ [32]) = f := ⟨_, rfl⟩
        obtain ⟨f2, hf2⟩ : ∃ f, tx (s ++ [32] ++ q) = f := ⟨_, rfl⟩
        rw [hf1] at a1 a2
        rw [hf2] at a2
        have hf2' := Lib.hid hf2
        clear hf1 hf2 hstep
        go_wp2_with fail
        go_roundw
        case rel => exact ⟨k + 1, s ++ [32] ++ q, by go_num, by rw [hf2'.out], by omega, hl2, hF2, B3⟩
        case measure => simp [RowKit.intOf]; omega
    · obtain rfl : k = n := by omega
      have hall : L.take k = L := by rw [← hn'.out]; exact List.take_length
      have hF2 := hF.out
      rw [hall] at hF2
      obtain ⟨M, hM, hsc⟩ := soFar_end s L hF2 (by omega)
      have a1 : ∀ w, (Op.stringOp .add (tx s) { data := #[32, 35, 32, 101, 110, 100] }).run Tryd.prog w = .ok (.string (tx (s ++ [32, 35, 32, 101, 110, 100]))) w := fun w => tx_cat s [32, 35, 32, 101, 110, 100] _ w (by simp; omega)
      have cS := Lib.hid (fun w hE => scan_any (tx (s ++ [32, 35, 32, 101, 110, 100])) w hE (by rw [tx_size]; simp; omega))
      rw [bl_tx, hsc] at cS
      have E2 := Lib.hid (E1.out.keep hB.out)
      have T2 := Lib.hid (T1.out.below hB.out)
      have B2 := Lib.hid (B1.out.trans (hB.out.mono B1.out.size))
      have hM' := Lib.hid hM
      generalize tx (s ++ [32, 35, 32, 101, 110, 100]) = f at *
      clear hall hF2 hsc hM
      go_wp2_with fail
      refine (cS.out _ E2.out).mono ?_; rintro e W3 ⟨u3, rfl, hR3, hB3⟩
      have E3 := Lib.hid (E2.out.keep hB3)
      have B3 := Lib.hid (B2.out.trans (hB3.mono B2.out.size))
      have T3 := Lib.hid (T2.out.below hB3)
      have cC := Lib.hid (same_any _ u3 L M W3 T3.out hR3.at (same_symm hM'.out) (by rw [hn'.out]; omega))
      clear cS hB3 hR3 E2 B2 T2
      go_wp2_with fail
      refine cC.out.mono ?_; rintro e W4 ⟨rfl, ⟨nd, rfl⟩⟩
      go_wp2_with fail
      refine (cA.out _ (E3.out.drewN nd)).mono ?_; rintro e W5 ⟨rfl, hB5⟩
      have B5 := Lib.hid ((below_drewN B3.out nd).trans (hB5.mono B3.out.size))
      clear hB5
      go_wp2_with fail
      go_ret
      exact ⟨rfl, B5.out⟩
theorem spaces_walk (v : Value) (l : List Int) (vh : Value) (lh : List Int) (w : World) (hE : Env w) (hI : IntsAt w v l) (hl : l.length ≤ 9223372036854775807) (hw : ∀ x ∈ l, (Lit.int .i64 x).wf = true)
    (hH : NumsAt .u8 w vh lh) (hlh : lh.length ≤ 9223372036854775807) (hwh : ∀ x ∈ lh, (Lit.int .u8 x).wf = true) : Calls Tryd.prog 5 #[v, vh] w (BoolBe true w) :=
  spacesW v l vh lh w hE hI hl (fun x hx => Go.bounds_i64 (hw x hx)) hH hlh (fun x hx => Go.bounds_u8 (hwh x hx))
end Go.Proofs.YtaengcbjpniclaaDoor.Lx
