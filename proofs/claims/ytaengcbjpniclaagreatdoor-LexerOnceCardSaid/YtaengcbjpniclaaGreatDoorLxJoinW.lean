/- Package lexer: Join's walk. -/
import Derived.Test.YtaengcbjpniclaaGreatDoorLxJoin
namespace Go.Proofs.YtaengcbjpniclaaGreatDoor.Lx
open Go.RowKit Go.Lib Go.Proofs.YtaengcbjpniclaaGreatDoor.Bas Go.Proofs.YtaengcbjpniclaaGreatDoor.Cal
set_option linter.unusedVariables false

/-- Is there a gap? -/
def gapB (last s : List UInt8) : Bool := !(last == [40]) && ((s == [40]) || !markB s)
theorem gap_of (last s : List UInt8) : gap last s = if gapB last s = true then [32] else [] := by
  unfold gap gapB
  congr 1
  simp
theorem tx_eq (u : List UInt8) : (tx u).toList = u := by rw [toList_bl, bl_tx]
theorem snoc_take (l : List Tk) (k : Nat) (h : k < l.length) (g : ∀ j, j < k → wrE (tk l j) = 0) (e : wrE (tk l k) = 0) : ∀ j, j < k + 1 → wrE (tk l j) = 0 := fun j hj => by
  by_cases hjk : j < k
  · exact g j hjk
  · obtain rfl : j = k := by omega
    exact e
set_option maxRecDepth 8000 in
set_option maxHeartbeats 16000000 in
theorem join_near (v : Value) (l : List Tk) (w : World) (hE : Env w) (h : TksAt w v l) (ht : ∀ t ∈ l, t.t.length ≤ 9223372036854775807) (h4 : l.length ≤ 4000) : Calls Tryz.prog 6 #[v] w (JoinOut (joinV l) w) := by
  have hA := Lib.hid h
  have hE' := Lib.hid hE
  have ht' := Lib.hid ht
  obtain ⟨p, c, rfl, _, hp⟩ := h
  have hp' := Lib.hid hp
  obtain ⟨n, hn⟩ : ∃ n, l.length = n := ⟨_, rfl⟩
  have hn' := Lib.hid hn
  rw [hn] at h4
  rw [hn] at hA hp' ⊢
  have B0 := Lib.hid (below_box w (.cells #[.pointer none, .slice none 0 0] 40))
  have N0 := Lib.hid (bld_new w)
  have hfar : joinV l = if joinE l ≠ 0 then ([], joinE l) else if 16384 < (joinT [40] l).length then ([], 4) else (joinT [40] l, 0) := by unfold joinV; rw [if_neg (by omega)]
  have hfar' := Lib.hid hfar
  obtain ⟨J, hJ⟩ : ∃ J, joinT [40] l = J := ⟨_, rfl⟩
  have hJ' := Lib.hid hJ
  have hJ0 := Lib.hid (show joinT [40] (l.drop 0) = J by rw [List.drop_zero]; exact hJ)
  have t1 : decide ((4000 : Int) < (n : Int)) = false := by simp; omega
  have t2 : decide (4000 < n) = false := by simp; omega
  have cW := Lib.hid written_any
  have cM := Lib.hid isMark_any
  clear hp hn hE ht hfar hJ
  go_enter Tryz.func6, Tryz.ntmps6
  go_wp2_with fail
  try any_goals (exfalso; omega; done)
  go_loopw [5, 15] (fun x5 x15 wr => ∃ (k : Nat) (last acc : List UInt8), x15 = .int .i64 k ∧ x5 = .string (tx last) ∧ k ≤ n ∧ acc.length ≤ 22 * k ∧ Hid (∀ j, j < k → wrE (tk l j) = 0) ∧ Hid (acc ++ joinT last (l.drop k) = J) ∧ Hid (Bld w.heap.size w.heap.size acc wr) ∧ Hid (Below w.heap.size w wr)) (fun _ i _ => n - (RowKit.intOf i).toNat)
  case atStart => exact ⟨0, [40], [], rfl, rfl, Nat.zero_le _, by simp, Lib.hid (fun j hj => by omega), Lib.hid (by rw [List.nil_append]; exact hJ0.out), N0, B0⟩
  case round =>
    obtain ⟨k, last, acc, rfl, rfl, hk, hac, hG, hT, hN, hB⟩ := hrel
    by_cases hlt : k < n
    · have hcA := (hA.out.below hB.out)
      obtain ⟨p2, c2, hv2, _, hpp⟩ := hcA
      obtain ⟨b, off, hpb, hc⟩ := hpp (by rw [hn'.out]; omega)
      obtain rfl : p2 = p := by cases hv2; rfl
      subst hpb
      have y := hc k (by rw [hn'.out]; exact hlt)
      have hmem : tk l k ∈ l := by rw [tk_at l k (by rw [hn'.out]; exact hlt)]; exact List.getElem_mem _
      have hEr := hE'.out.keep hB.out
      have cw := Lib.hid (fun w hE => cW.out (tk l k) w hE (ht'.out _ hmem))
      have hstep := Lib.hid (joinT_step last l k (by rw [hn'.out]; exact hlt))
      have hbad := Lib.hid (joinE_at l k (by rw [hn'.out]; exact hlt) hG.out)
      have hgood := Lib.hid (snoc_take l k (by rw [hn'.out]; exact hlt) hG.out)
      have hwl := Lib.hid (wr_len (tk l k))
      have hws : wrE (tk l k) = 0 → wrS (tk l k) = tx (Lx.wr (tk l k)) := fun e => by unfold wrS; rw [if_pos e]
      have hws' := Lib.hid hws
      have hsE := hB.out.size
      obtain ⟨y0, y1, y2, y3⟩ := y
      unfold tkV at cw
      clear hv2 hpp hc hmem hws hp' hA
      generalize wrE (tk l k) = er at *
      generalize wrS (tk l k) = sr at *
      generalize Lx.wr (tk l k) = u at *
      generalize (tk l k).k = k1 at *
      generalize (tk l k).t = t1 at *
      generalize (tk l k).n = n1 at *
      generalize (tk l k).p = p1 at *
      have hEx := Lib.hid (Env.alloc hEr (.cells #[.int .i64 k1, .string (tx t1), .int .i64 n1, .int .i64 p1] 25))
      have Bx := Lib.hid (below_box wr (.cells #[.int .i64 k1, .string (tx t1), .int .i64 n1, .int .i64 p1] 25))
      clear hEr
      go_wp2_with fail
      refine (cw.out _ hEx.out).mono ?_; rintro e W1 ⟨rfl, hB1⟩
      have hvW : Below wr.heap.size wr W1 := Bx.out.trans (hB1.mono Bx.out.size)
      have N1 := Lib.hid (hN.out.keep hvW)
      have B1 := Lib.hid (hB.out.trans (hvW.mono hB.out.size))
      have hs1 := B1.out.size
      clear hB1 hvW hN hB Bx hEx cw
      by_cases he : er = 0
      · have v1 : (er == 0) = true := by simp [he]
        have v2 : (er != 0) = false := by simp [he]
        obtain rfl : sr = tx u := hws'.out he
        have hul := hwl.out he
        have hG2 := Lib.hid (hgood.out he)
        have cMu := Lib.hid (fun w => cM.out (tx u) w)
        rw [bl_tx] at cMu
        have hg : gap last u = if gapB last u = true then [32] else [] := gap_of last u
        unfold gapB at hg
        obtain ⟨a, ha⟩ : ∃ a, (last == [40]) = a := ⟨_, rfl⟩
        obtain ⟨q, hq⟩ : ∃ q, (u == [40]) = q := ⟨_, rfl⟩
        have x1 : ((tx last).toList == [40]) = a := by rw [tx_eq]; exact ha
        have x2 : ((tx last).toList != [40]) = !a := by rw [bne, tx_eq, ha]
        have x3 : ((tx u).toList == [40]) = q := by rw [tx_eq]; exact hq
        rw [ha, hq] at hg
        generalize markB u = m at *
        have hT2 := Lib.hid (show acc ++ (gap last u ++ (u ++ joinT u (l.drop (k + 1)))) = J by rw [← hstep.out]; exact hT.out)
        have hg' := Lib.hid hg
        clear hg ha hq he hgood hbad hws' hwl hstep hT hG
        by_cases hgp : (!a && (q || !m)) = true
        · have hT3 := Lib.hid (show (acc ++ [32] ++ u) ++ joinT u (l.drop (k + 1)) = J by rw [← hT2.out, hg'.out, if_pos hgp]; simp only [List.append_assoc])
          have cB := Lib.hid (write_byte w.heap.size w.heap.size acc 32 W1 N1.out (by omega) hs1)
          rw [show (((32 : UInt8).toNat : Nat) : Int) = 32 from rfl] at cB
          have hTT : ∀ W2, Bld w.heap.size w.heap.size (acc ++ [32]) W2 → Below w.heap.size W1 W2 → Hid (Calls Tryz.prog 15 #[.pointer (some ⟨w.heap.size, 0, none⟩), .string (tx u)] W2 fun e w' => (∃ z, e = .returned z) ∧ Bld w.heap.size w.heap.size (acc ++ [32] ++ u) w' ∧ Below w.heap.size W2 w') :=
            fun W2 hN2 hB2 => Lib.hid (write_string w.heap.size w.heap.size (acc ++ [32]) u W2 hN2 (by simp; omega) (Nat.le_trans hs1 hB2.size))
          have hTT' := Lib.hid hTT
          clear hTT hT2 hg' N1
          cases a with
          | true => exact absurd hgp (by simp)
          | false =>
            cases q with
            | true =>
              clear hgp
              go_wp2_with fail
              refine cB.out.mono ?_; rintro e W2 ⟨rfl, hN2, hB2⟩
              have cS := hTT'.out W2 hN2 hB2
              have B2 := Lib.hid (B1.out.trans hB2)
              clear hN2 hB2
              go_wp2_with fail
              refine cS.out.mono ?_; rintro e W3 ⟨⟨z, rfl⟩, hN3, hB3⟩
              have N3 := Lib.hid hN3
              have B3 := Lib.hid (B2.out.trans hB3)
              clear hN3 hB3
              go_wp2_with fail
              go_roundw
              case rel => exact ⟨k + 1, u, acc ++ [32] ++ u, by go_num, rfl, by omega, by simp; omega, hG2, hT3, N3, B3⟩
              case measure => simp [RowKit.intOf]; omega
            | false =>
              cases m with
              | true => exact absurd hgp (by simp)
              | false =>
                clear hgp
                go_wp2_with fail
                refine (cMu.out _).mono ?_; rintro e w' ⟨rfl, rfl⟩
                go_wp2_with fail
                refine cB.out.mono ?_; rintro e W2 ⟨rfl, hN2, hB2⟩
                have cS := hTT'.out W2 hN2 hB2
                have B2 := Lib.hid (B1.out.trans hB2)
                clear hN2 hB2
                go_wp2_with fail
                refine cS.out.mono ?_; rintro e W3 ⟨⟨z, rfl⟩, hN3, hB3⟩
                have N3 := Lib.hid hN3
                have B3 := Lib.hid (B2.out.trans hB3)
                clear hN3 hB3
                go_wp2_with fail
                go_roundw
                case rel => exact ⟨k + 1, u, acc ++ [32] ++ u, by go_num, rfl, by omega, by simp; omega, hG2, hT3, N3, B3⟩
                case measure => simp [RowKit.intOf]; omega
        · have hT3 := Lib.hid (show (acc ++ u) ++ joinT u (l.drop (k + 1)) = J by rw [← hT2.out, hg'.out, if_neg hgp]; simp only [List.append_assoc, List.nil_append])
          have cS := Lib.hid (write_string w.heap.size w.heap.size acc u W1 N1.out (by omega) hs1)
          clear hT2 hg' N1
          cases a with
          | true =>
            clear hgp
            go_wp2_with fail
            refine cS.out.mono ?_; rintro e W3 ⟨⟨z, rfl⟩, hN3, hB3⟩
            have N3 := Lib.hid hN3
            have B3 := Lib.hid (B1.out.trans hB3)
            clear hN3 hB3
            go_wp2_with fail
            go_roundw
            case rel => exact ⟨k + 1, u, acc ++ u, by go_num, rfl, by omega, by simp; omega, hG2, hT3, N3, B3⟩
            case measure => simp [RowKit.intOf]; omega
          | false =>
            cases q with
            | true => exact absurd rfl hgp
            | false =>
              cases m with
              | false => exact absurd rfl hgp
              | true =>
                clear hgp
                go_wp2_with fail
                refine (cMu.out _).mono ?_; rintro e w' ⟨rfl, rfl⟩
                go_wp2_with fail
                refine cS.out.mono ?_; rintro e W3 ⟨⟨z, rfl⟩, hN3, hB3⟩
                have N3 := Lib.hid hN3
                have B3 := Lib.hid (B1.out.trans hB3)
                clear hN3 hB3
                go_wp2_with fail
                go_roundw
                case rel => exact ⟨k + 1, u, acc ++ u, by go_num, rfl, by omega, by simp; omega, hG2, hT3, N3, B3⟩
                case measure => simp [RowKit.intOf]; omega
      · have v1 : (er == 0) = false := by simp [he]
        have v2 : (er != 0) = true := by simp [he]
        have hv : joinV l = ([], er) := by
          have := hbad.out he
          rw [hfar'.out, this, if_pos he]
        have hv' := Lib.hid hv
        clear he hv
        go_wp2_with fail
        go_ret2
        exact ⟨by rw [hv'.out]; rfl, B1.out⟩
    · obtain rfl : k = n := by omega
      have hJ1 : joinE l = 0 := joinE_all l (by rw [hn'.out]; exact hG.out)
      have hacc : acc = J := by
        have := hT.out
        rw [joinT_end last l k (by rw [hn'.out]; omega), List.append_nil] at this
        exact this
      have cL := Lib.hid (wlen_any w.heap.size w.heap.size acc wr hN.out)
      have cS := Lib.hid (wstr_any w.heap.size w.heap.size acc wr hN.out hB.out.size)
      by_cases h16 : 16384 < acc.length
      · have hv : joinV l = ([], 4) := by rw [hfar'.out, hJ1, if_neg (by simp), hJ'.out, ← hacc, if_pos h16]
        have u1 : decide ((16384 : Int) < (acc.length : Int)) = true := by simp; omega
        have u2 : decide (16384 < acc.length) = true := by simp; omega
        have hv' := Lib.hid hv
        clear hv hacc hJ1 h16
        go_wp2_with fail
        refine cL.out.mono ?_; rintro e w' ⟨rfl, rfl⟩
        go_wp2_with fail
        try any_goals (exfalso; omega; done)
        go_ret2
        exact ⟨by rw [hv'.out]; rfl, hB.out⟩
      · have hv : joinV l = (acc, 0) := by rw [hfar'.out, hJ1, if_neg (by simp), hJ'.out, ← hacc, if_neg h16]
        have u1 : decide ((16384 : Int) < (acc.length : Int)) = false := by simp; omega
        have u2 : decide (16384 < acc.length) = false := by simp; omega
        have hv' := Lib.hid hv
        clear hv hacc hJ1 h16
        go_wp2_with fail
        refine cL.out.mono ?_; rintro e w' ⟨rfl, rfl⟩
        go_wp2_with fail
        try any_goals (exfalso; omega; done)
        refine cS.out.mono ?_; rintro e W2 ⟨rfl, hB2⟩
        have B2 := Lib.hid (hB.out.trans hB2)
        clear hB2
        go_wp2_with fail
        go_ret2
        exact ⟨by rw [hv'.out]; rfl, B2.out⟩
theorem join_any (v : Value) (l : List Tk) (w : World) (hE : Env w) (h : TksAt w v l) (ht : ∀ t ∈ l, t.t.length ≤ 9223372036854775807) (hl : l.length ≤ 9223372036854775807) : Calls Tryz.prog 6 #[v] w (JoinOut (joinV l) w) := by
  by_cases h4 : 4000 < l.length
  · exact join_far v l w h h4 hl
  · exact join_near v l w hE h ht (by omega)
end Go.Proofs.YtaengcbjpniclaaGreatDoor.Lx
