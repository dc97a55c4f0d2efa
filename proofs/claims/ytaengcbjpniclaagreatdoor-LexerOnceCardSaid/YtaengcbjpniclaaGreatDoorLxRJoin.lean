/- The reference's Join. -/
import Derived.Test.YtaengcbjpniclaaGreatDoorLxRWrt
import Derived.Test.YtaengcbjpniclaaGreatDoorLxJoinW
namespace Go.Proofs.YtaengcbjpniclaaGreatDoor.Lx
open Go.RowKit Go.Lib Go.Proofs.YtaengcbjpniclaaGreatDoor.Bas Go.Proofs.YtaengcbjpniclaaGreatDoor.Cal
set_option linter.unusedVariables false

theorem gapB_ref (last s : List UInt8) : gapB last s = (!(last == [40]) && (!(s == [59]) && (!(s == [58]) && (!(s == [44]) && !(s == [41]))))) := by
  unfold gapB
  congr 1
  rw [Bool.eq_iff_iff]
  unfold markB
  simp only [Bool.or_eq_true, beq_iff_eq, Bool.not_eq_true', decide_eq_false_iff_not, Bool.and_eq_true, beq_eq_false_iff_ne, ne_eq]
  constructor
  · rintro (rfl | h)
    · decide
    · exact ⟨fun e => h (.inl e), fun e => h (.inr (.inl e)), fun e => h (.inr (.inr (.inl e))), fun e => h (.inr (.inr (.inr (.inr e))))⟩
  · rintro ⟨h1, h2, h3, h4⟩
    by_cases h : s = [40]
    · exact .inl h
    · right
      rintro (e | e | e | e | e)
      · exact h1 e
      · exact h2 e
      · exact h3 e
      · exact h e
      · exact h4 e
theorem rjoin_far (v : Value) (l : List Tk) (w : World) (h : TksAt w v l) (h4 : 4000 < l.length) (hl : l.length ≤ 9223372036854775807) : Calls Tryz.prog 7 #[v] w (JoinOut (joinV l) w) := by
  rw [show joinV l = ([], 4) by unfold joinV; rw [if_pos h4]]
  obtain ⟨p, c, rfl, _, _⟩ := h
  have t1 : decide ((4000 : Int) < (l.length : Int)) = true := by simp; omega
  have t2 : decide (4000 < l.length) = true := by simp; omega
  go_enter Tryz.func7, Tryz.ntmps7
  go_wp2_with fail
  try any_goals (exfalso; omega; done)
  go_ret2
  exact ⟨rfl, Below.refl _ _⟩
set_option maxRecDepth 8000 in
set_option maxHeartbeats 16000000 in
theorem rjoin_near (v : Value) (l : List Tk) (w : World) (h : TksAt w v l) (ht : ∀ t ∈ l, t.t.length ≤ 9223372036854775807) (h4 : l.length ≤ 4000) : Calls Tryz.prog 7 #[v] w (JoinOut (joinV l) w) := by
  have hA := Lib.hid h
  have ht' := Lib.hid ht
  obtain ⟨p, c, rfl, _, hp⟩ := h
  have hp' := Lib.hid hp
  obtain ⟨n, hn⟩ : ∃ n, l.length = n := ⟨_, rfl⟩
  have hn' := Lib.hid hn
  rw [hn] at h4
  rw [hn] at hA hp' ⊢
  have hfar : joinV l = if joinE l ≠ 0 then ([], joinE l) else if 16384 < (joinT [40] l).length then ([], 4) else (joinT [40] l, 0) := by unfold joinV; rw [if_neg (by omega)]
  have hfar' := Lib.hid hfar
  obtain ⟨J, hJ⟩ : ∃ J, joinT [40] l = J := ⟨_, rfl⟩
  have hJ' := Lib.hid hJ
  have hJ0 := Lib.hid (show joinT [40] (l.drop 0) = J by rw [List.drop_zero]; exact hJ)
  have t1 : decide ((4000 : Int) < (n : Int)) = false := by simp; omega
  have t2 : decide (4000 < n) = false := by simp; omega
  have cW := Lib.hid rwritten_any
  have hempty := Lib.hid (show ({ data := #[] } : ByteArray) = tx [] from rfl)
  clear hp hn ht hfar hJ
  go_enter Tryz.func7, Tryz.ntmps7
  go_wp2_with fail
  try any_goals (exfalso; omega; done)
  go_loopw [4, 5, 6] (fun x4 x5 x6 wr => ∃ (k : Nat) (last acc : List UInt8), x6 = .int .i64 k ∧ x5 = .bool (last == [40]) ∧ x4 = .string (tx acc) ∧ k ≤ n ∧ acc.length ≤ 22 * k ∧ Hid (∀ j, j < k → wrE (tk l j) = 0) ∧ Hid (acc ++ joinT last (l.drop k) = J) ∧ Hid (Below w.heap.size w wr)) (fun _ _ i _ => n - (RowKit.intOf i).toNat)
  case atStart => exact ⟨0, [40], [], rfl, rfl, by rw [hempty.out], Nat.zero_le _, by simp, Lib.hid (fun j hj => by omega), Lib.hid (by rw [List.nil_append]; exact hJ0.out), Lib.hid (Below.refl _ _)⟩
  case round =>
    obtain ⟨k, last, acc, rfl, rfl, rfl, hk, hac, hG, hT, hB⟩ := hrel
    by_cases hlt : k < n
    · have hcA := (hA.out.below hB.out)
      obtain ⟨p2, c2, hv2, _, hpp⟩ := hcA
      obtain ⟨b, off, hpb, hc⟩ := hpp (by rw [hn'.out]; omega)
      obtain rfl : p2 = p := by cases hv2; rfl
      subst hpb
      have y := hc k (by rw [hn'.out]; exact hlt)
      have hmem : tk l k ∈ l := by rw [tk_at l k (by rw [hn'.out]; exact hlt)]; exact List.getElem_mem _
      have cw := Lib.hid (fun w => cW.out (tk l k) w (ht'.out _ hmem))
      have hstep := Lib.hid (joinT_step last l k (by rw [hn'.out]; exact hlt))
      have hbad := Lib.hid (joinE_at l k (by rw [hn'.out]; exact hlt) hG.out)
      have hgood := Lib.hid (snoc_take l k (by rw [hn'.out]; exact hlt) hG.out)
      have hwl := Lib.hid (wr_len (tk l k))
      obtain ⟨y0, y1, y2, y3⟩ := y
      unfold tkV WrOut at cw
      clear hv2 hpp hc hmem hp' hA
      generalize wrE (tk l k) = er at *
      generalize Lx.wr (tk l k) = u at *
      generalize (tk l k).k = k1 at *
      generalize (tk l k).t = t1 at *
      generalize (tk l k).n = n1 at *
      generalize (tk l k).p = p1 at *
      obtain ⟨a, ha⟩ : ∃ a, (last == [40]) = a := ⟨_, rfl⟩
      rw [ha]
      go_wp2_with fail
      refine (cw.out _).mono ?_; rintro e W1 ⟨sr, hsr, rfl, hB1⟩
      have B1 := Lib.hid (hB.out.trans (hB1.mono hB.out.size))
      have hsr' := Lib.hid hsr
      clear hB1 hB cw hsr
      by_cases he : er = 0
      · have v1 : (er == 0) = true := by simp [he]
        have v2 : (er != 0) = false := by simp [he]
        obtain rfl : sr = tx u := hsr'.out he
        have hul := hwl.out he
        have hG2 := Lib.hid (hgood.out he)
        have hg : gap last u = if gapB last u = true then [32] else [] := gap_of last u
        rw [gapB_ref, ha] at hg
        obtain ⟨q, hq⟩ : ∃ q, (u == [40]) = q := ⟨_, rfl⟩
        obtain ⟨m1, hm1⟩ : ∃ q, (u == [59]) = q := ⟨_, rfl⟩
        obtain ⟨m2, hm2⟩ : ∃ q, (u == [58]) = q := ⟨_, rfl⟩
        obtain ⟨m3, hm3⟩ : ∃ q, (u == [44]) = q := ⟨_, rfl⟩
        obtain ⟨m4, hm4⟩ : ∃ q, (u == [41]) = q := ⟨_, rfl⟩
        have x3 : ((tx u).toList == [40]) = q := by rw [tx_eq]; exact hq
        have z1 : ((tx u).toList == [59]) = m1 := by rw [tx_eq]; exact hm1
        have z2 : ((tx u).toList == [58]) = m2 := by rw [tx_eq]; exact hm2
        have z3 : ((tx u).toList == [44]) = m3 := by rw [tx_eq]; exact hm3
        have z4 : ((tx u).toList == [41]) = m4 := by rw [tx_eq]; exact hm4
        have y1 : ((tx u).toList != [59]) = !m1 := by rw [bne, z1]
        have y2 : ((tx u).toList != [58]) = !m2 := by rw [bne, z2]
        have y3 : ((tx u).toList != [44]) = !m3 := by rw [bne, z3]
        have y4 : ((tx u).toList != [41]) = !m4 := by rw [bne, z4]
        rw [hm1, hm2, hm3, hm4] at hg
        have hq' := Lib.hid hq
        have hT2 := Lib.hid (show acc ++ (gap last u ++ (u ++ joinT u (l.drop (k + 1)))) = J by rw [← hstep.out]; exact hT.out)
        have hg' := Lib.hid hg
        have a1 : ∀ w, (Op.stringOp .add (tx acc) { data := #[32] }).run Tryz.prog w = .ok (.string (tx (acc ++ [32]))) w := fun w => tx_cat acc [32] _ w (by simp; omega)
        have a2 : ∀ w, (Op.stringOp .add (tx (acc ++ [32])) (tx u)).run Tryz.prog w = .ok (.string (tx (acc ++ [32] ++ u))) w := fun w => tx_cat _ u _ w (by simp; omega)
        have a3 : ∀ w, (Op.stringOp .add (tx acc) (tx u)).run Tryz.prog w = .ok (.string (tx (acc ++ u))) w := fun w => tx_cat acc u _ w (by omega)
        have hTg := Lib.hid (fun (e : gap last u = [32]) => show (acc ++ [32] ++ u) ++ joinT u (l.drop (k + 1)) = J by rw [← hT2.out, e]; simp only [List.append_assoc])
        have hTn := Lib.hid (fun (e : gap last u = []) => show (acc ++ u) ++ joinT u (l.drop (k + 1)) = J by rw [← hT2.out, e]; simp only [List.append_assoc, List.nil_append])
        have hl1 : (acc ++ [32] ++ u).length ≤ 22 * (k + 1) := by simp; omega
        have hl2 : (acc ++ u).length ≤ 22 * (k + 1) := by simp; omega
        generalize tx (acc ++ [32]) = f1 at *
        obtain ⟨f2, hf2⟩ : ∃ f, tx (acc ++ [32] ++ u) = f := ⟨_, rfl⟩
        obtain ⟨f3, hf3⟩ : ∃ f, tx (acc ++ u) = f := ⟨_, rfl⟩
        rw [hf2] at a2
        rw [hf3] at a3
        have hf2' := Lib.hid hf2
        have hf3' := Lib.hid hf3
        clear hg hq hm1 hm2 hm3 hm4 ha he hgood hbad hwl hstep hT hf2 hf3 hsr' hT2
        cases a with
        | true =>
          have hT3 := Lib.hid (hTn.out (by rw [hg'.out]; rfl))
          clear hTg hTn hg'
          go_wp2_with fail
          go_roundw
          case rel => exact ⟨k + 1, u, acc ++ u, by go_num, by rw [hq'.out], by rw [hf3'.out], by omega, hl2, hG2, hT3, B1⟩
          case measure => simp [RowKit.intOf]; omega
        | false =>
          cases m1 with
          | true =>
            have hT3 := Lib.hid (hTn.out (by rw [hg'.out]; rfl))
            clear hTg hTn hg'
            go_wp2_with fail
            go_roundw
            case rel => exact ⟨k + 1, u, acc ++ u, by go_num, by rw [hq'.out], by rw [hf3'.out], by omega, hl2, hG2, hT3, B1⟩
            case measure => simp [RowKit.intOf]; omega
          | false =>
            cases m2 with
            | true =>
              have hT3 := Lib.hid (hTn.out (by rw [hg'.out]; rfl))
              clear hTg hTn hg'
              go_wp2_with fail
              go_roundw
              case rel => exact ⟨k + 1, u, acc ++ u, by go_num, by rw [hq'.out], by rw [hf3'.out], by omega, hl2, hG2, hT3, B1⟩
              case measure => simp [RowKit.intOf]; omega
            | false =>
              cases m3 with
              | true =>
                have hT3 := Lib.hid (hTn.out (by rw [hg'.out]; rfl))
                clear hTg hTn hg'
                go_wp2_with fail
                go_roundw
                case rel => exact ⟨k + 1, u, acc ++ u, by go_num, by rw [hq'.out], by rw [hf3'.out], by omega, hl2, hG2, hT3, B1⟩
                case measure => simp [RowKit.intOf]; omega
              | false =>
                cases m4 with
                | true =>
                  have hT3 := Lib.hid (hTn.out (by rw [hg'.out]; rfl))
                  clear hTg hTn hg'
                  go_wp2_with fail
                  go_roundw
                  case rel => exact ⟨k + 1, u, acc ++ u, by go_num, by rw [hq'.out], by rw [hf3'.out], by omega, hl2, hG2, hT3, B1⟩
                  case measure => simp [RowKit.intOf]; omega
                | false =>
                  have hT3 := Lib.hid (hTg.out (by rw [hg'.out]; rfl))
                  clear hTg hTn hg'
                  go_wp2_with fail
                  go_roundw
                  case rel => exact ⟨k + 1, u, acc ++ [32] ++ u, by go_num, by rw [hq'.out], by rw [hf2'.out], by omega, hl1, hG2, hT3, B1⟩
                  case measure => simp [RowKit.intOf]; omega
      · have v1 : (er == 0) = false := by simp [he]
        have v2 : (er != 0) = true := by simp [he]
        have hv : joinV l = ([], er) := by
          have := hbad.out he
          rw [hfar'.out, this, if_pos he]
        have hv' := Lib.hid hv
        clear he hv
        go_wp2_with fail
        go_ret2
        exact ⟨by rw [hv'.out]; rfl, B1.out⟩
    · obtain rfl : k = n := by omega
      have hJ1 : joinE l = 0 := joinE_all l (by rw [hn'.out]; exact hG.out)
      have hacc : acc = J := by
        have := hT.out
        rw [joinT_end last l k (by rw [hn'.out]; omega), List.append_nil] at this
        exact this
      have hsz := tx_size acc
      by_cases h16 : 16384 < acc.length
      · have hv : joinV l = ([], 4) := by rw [hfar'.out, hJ1, if_neg (by simp), hJ'.out, ← hacc, if_pos h16]
        have u1 : decide ((16384 : Int) < (acc.length : Int)) = true := by simp; omega
        have u2 : decide (16384 < acc.length) = true := by simp; omega
        have hv' := Lib.hid hv
        clear hv hacc hJ1 h16
        go_wp2_with fail
        try any_goals (exfalso; omega; done)
        go_ret2
        exact ⟨by rw [hv'.out]; rfl, hB.out⟩
      · have hv : joinV l = (acc, 0) := by rw [hfar'.out, hJ1, if_neg (by simp), hJ'.out, ← hacc, if_neg h16]
        have u1 : decide ((16384 : Int) < (acc.length : Int)) = false := by simp; omega
        have u2 : decide (16384 < acc.length) = false := by simp; omega
        have hv' := Lib.hid hv
        clear hv hacc hJ1 h16
        go_wp2_with fail
        try any_goals (exfalso; omega; done)
        go_ret2
        exact ⟨by rw [hv'.out]; rfl, hB.out⟩
theorem rjoin_any (v : Value) (l : List Tk) (w : World) (h : TksAt w v l) (ht : ∀ t ∈ l, t.t.length ≤ 9223372036854775807) (hl : l.length ≤ 9223372036854775807) : Calls Tryz.prog 7 #[v] w (JoinOut (joinV l) w) := by
  by_cases h4 : 4000 < l.length
  · exact rjoin_far v l w h h4 hl
  · exact rjoin_near v l w h ht (by omega)
end Go.Proofs.YtaengcbjpniclaaGreatDoor.Lx
