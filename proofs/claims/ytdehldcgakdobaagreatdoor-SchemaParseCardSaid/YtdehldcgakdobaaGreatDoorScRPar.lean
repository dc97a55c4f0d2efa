/- The reference's ParseFacts. -/
import Derived.Test.YtdehldcgakdobaaGreatDoorScRParM
import Derived.Test.YtdehldcgakdobaaGreatDoorScRNum
import Derived.Test.YtdehldcgakdobaaGreatDoorScFacts
namespace Go.Proofs.YtdehldcgakdobaaGreatDoor.Sc
open Go.RowKit Go.Lib Go.Proofs.YtdehldcgakdobaaGreatDoor.Bas Go.Proofs.YtdehldcgakdobaaGreatDoor.Cal Go.Proofs.YtdehldcgakdobaaGreatDoor.Lx
set_option linter.unusedVariables false

theorem ne59_get (T : List UInt8) (p j : Nat) (h : p + j < T.length) : (T.drop p).getD j 0 = T.getD (p + j) 0 := by
  rw [List.getD_eq_getElem?_getD, List.getD_eq_getElem?_getD, List.getElem?_drop]
set_option maxRecDepth 8000 in
set_option maxHeartbeats 32000000 in
theorem rparse_any (u : Value) (L : List At) (T : List UInt8) (w : World) (h : AttsAt w u L) (hw : ∀ a ∈ L, AtWf a) (hs : schE L = 0) (hT : T.length ≤ 9000) :
    Calls Tryz.prog 12 #[.agg #[u], .string (tx T)] w (ParseBe L T w) := by
  have B0 := Lib.hid (alloc_at w (.cells #[u] 25))
  have A0 := Lib.hid (h.below B0.out)
  have O0 := Lib.hid (OAt.new w u 25)
  obtain ⟨hn1, hn6, hat⟩ := schE_ok L hs
  obtain ⟨p, c, rfl, _, _⟩ := h
  have cS := Lib.hid (fun W hA => rschema_any (.slice p L.length c) W L hA (by omega) hw)
  rw [hs] at cS
  have cF := Lib.hid (fun W vf f hA hI hlf => rfacts_any (.slice p L.length c) W L vf f hA (by omega) hw hI hlf)
  have hat' := Lib.hid (fun k (hk : k < L.length) => (atE_ok L k (hat k hk)))
  have hwf := Lib.hid (fun k (hk : k < L.length) => wf_at L hw k hk)
  obtain ⟨n, hn⟩ : ∃ n, L.length = n := ⟨_, rfl⟩
  have hn' := Lib.hid hn
  rw [hn] at hn1 hn6 A0 O0 B0 cS cF hat' hwf ⊢
  clear hw hs hat hn
  obtain ⟨s, hss⟩ : ∃ s, tx T = s := ⟨_, rfl⟩
  have hsz : s.size = T.length := by rw [← hss]; exact tx_size T
  have hbl := Lib.hid (show bl s = T by rw [← hss]; exact bl_tx T)
  have htx := Lib.hid hss
  rw [hss]
  have hget := Lib.hid (bl_get s)
  clear hss
  have hTm := Lib.hid (show T.length = s.size by omega)
  have hm9 : s.size ≤ 9000 := by omega
  clear hsz hT
  go_enter Tryz.func12, Tryz.ntmps12
  go_upto_region 1 with fail
  obtain ⟨b0, hb0⟩ : ∃ b, w.heap.size = b := ⟨_, rfl⟩
  rw [hb0] at O0 ⊢
  clear hb0
  generalize w.alloc (.cells #[.slice p n c] 25) = W0 at *
  have x0 := O0.out.2
  have cX := Lib.hid (cS.out W0 A0.out)
  clear cS
  go_wp2_with fail
  refine cX.out.mono ?_; rintro e W1 ⟨rfl, hB1⟩
  have B1 := Lib.hid (trans_b B0.out hB1)
  have A1 := Lib.hid (A0.out.below hB1)
  have O1 := Lib.hid (O0.out.keep hB1)
  clear hB1 cX x0 A0 O0 B0
  go_wp2_with fail
  go_loopw [7, 8, 9] (fun x7 x8 i wr => ∃ (k pos : Nat) (f : List Int), k ≤ n ∧ pos ≤ s.size ∧ i = .int .i64 k ∧ x8 = .int .i64 pos ∧ Hid (Inv L T f k pos) ∧ Hid (Row 3 .i64 W1.heap.size wr x7 f) ∧ Hid (Below W1.heap.size W1 wr)) (fun _ _ i _ => n - (RowKit.intOf i).toNat)
  case atStart => exact ⟨0, 0, [], Nat.zero_le _, Nat.zero_le _, rfl, rfl, Lib.hid (inv_zero L T), Lib.hid (World.ownsRow_nil _ _ _ 1), Lib.hid (Below.refl _ _)⟩
  case round =>
    obtain ⟨k, pos, f, hk, hpm, rfl, rfl, hI, hR, hB⟩ := hrel
    have x0 := (O1.out.keep hB.out).2
    by_cases hlt : k < n
    · obtain ⟨p', c', hv, _, hp⟩ := A1.out.below hB.out
      obtain ⟨b, off, hpb, hc⟩ := hp (by rw [hn'.out]; omega)
      obtain rfl : p' = p := by cases hv; rfl
      subst hpb
      obtain ⟨y0, y1, ⟨uk, y2, hS⟩, y3, y4⟩ := hc k (by rw [hn'.out]; exact hlt)
      clear hv hp hc
      obtain ⟨hnam, hatt⟩ := hat'.out k hlt
      have hnl := name_len hnam
      have hal := alloc_at wr (.cells #[.string (tx (at' L k).nm), .int .i64 (at' L k).k, uk, .int .i64 (at' L k).lo, .int .i64 (at' L k).hi] 43)
      have B3 := Lib.hid (hB.out.alloc hB.out.size (.cells #[.string (tx (at' L k).nm), .int .i64 (at' L k).k, uk, .int .i64 (at' L k).lo, .int .i64 (at' L k).hi] 43))
      have K3 := Lib.hid (AAt.new wr (at' L k) uk 43)
      have S3 := Lib.hid (hS.below hal)
      have R3 := Lib.hid (hR.out.keep hal)
      have hkL : k < L.length := by rw [hn'.out]; exact hlt
      have hhead := Lib.hid (fun g hg => inv_head hI.out hkL g hg)
      have hstep := Lib.hid (inv_step hI.out hkL)
      have cV := Lib.hid (fun W hS => rval_any (at' L k) uk (partV T (pos + (headL L k).length)) W hS hatt (by unfold partV; rw [List.length_drop, List.length_take]; have := hTm.out; omega))
      have hhl : (headL L k).length ≤ 19 := by
        unfold headL sepT
        rw [List.length_append, List.length_append]
        split <;> simp <;> omega
      have q1 : ∀ w, (Op.stringOp .add (tx (at' L k).nm) { data := #[61] }).run Tryz.prog w = .ok (.string (tx ((at' L k).nm ++ [61]))) w := fun w => tx_cat _ [61] _ w (by simp; omega)
      have q2 : ∀ w, (Op.stringOp .add { data := #[59, 32] } (tx ((at' L k).nm ++ [61]))).run Tryz.prog w = .ok (.string (tx ([59, 32] ++ ((at' L k).nm ++ [61])))) w := fun w => tx_cat [59, 32] _ _ w (by simp; omega)
      have hk64 : IntKind.i64.wrap ((k : Int) + 1) = (k : Int) + 1 := IntWalk.i64_in _ (by omega)
      have hhd := Lib.hid (show headL L k = (if k = 0 then [] else [59, 32]) ++ ((at' L k).nm ++ [61]) from rfl)
      unfold AtV at cV
      obtain ⟨pk, ck, rfl, _, _⟩ := hS
      clear hal hatt hnam hR hI hnl hkL
      go_upto_region 10 with fail
      clear y0 y1 y2 y3 y4 x0
      obtain ⟨b4, hb4⟩ : ∃ b, wr.heap.size = b := ⟨_, rfl⟩
      rw [hb4] at K3 ⊢
      clear hb4
      generalize wr.alloc (.cells #[.string (tx (at' L k).nm), .int .i64 (at' L k).k, .slice pk (at' L k).ws.length ck, .int .i64 (at' L k).lo, .int .i64 (at' L k).hi] 43) = W3 at *
      obtain ⟨_, z0, z1, z2, z3, z4⟩ := K3.out
      go_upto_if 36 with (fail)
      go_cut [11] (fun x11 wx => x11 = .string (tx (headL L k)) ∧ wx = W3)
      case first =>
        by_cases hk0 : k = 0
        · have t1 : decide ((0 : Int) < (k : Int)) = false := decide_eq_false (by omega)
          have t2 : decide (0 < k) = false := decide_eq_false (by omega)
          have hh := Lib.hid (show headL L k = (at' L k).nm ++ [61] from by rw [hhd.out, if_pos hk0, List.nil_append])
          have hk1 : k < 1 := by omega
          clear hk0
          go_wp2_with fail
          try any_goals (exfalso; omega; done)
          go_meet
          case rel => exact ⟨by rw [hh.out], rfl⟩
        · have t1 : decide ((0 : Int) < (k : Int)) = true := decide_eq_true (by omega)
          have t2 : decide (0 < k) = true := decide_eq_true (by omega)
          have hh := Lib.hid (show headL L k = [59, 32] ++ ((at' L k).nm ++ [61]) from by rw [hhd.out, if_neg hk0])
          go_wp2_with fail
          try any_goals (exfalso; omega; done)
          go_meet
          case rel => exact ⟨by rw [hh.out]; rfl, rfl⟩
      case rest =>
        obtain ⟨rfl, rfl⟩ := hcut
        obtain ⟨hs, hhs⟩ : ∃ x, tx (headL L k) = x := ⟨_, rfl⟩
        have hhl2 : (headL L k).length = hs.size := by rw [← hhs, tx_size]
        have hbh := Lib.hid (show bl hs = headL L k from by rw [← hhs, bl_tx])
        rw [hhs]
        rw [hhl2] at hhl hhead hstep cV
        clear hhs hhl2 q1 q2 hhd
        have w1 : IntKind.i64.wrap ((s.size : Int) - (pos : Int)) = (s.size : Int) - (pos : Int) := IntWalk.i64_in _ (by omega)
        by_cases hA : pos + hs.size ≤ s.size
        · have t1 : decide ((s.size : Int) - (pos : Int) < (hs.size : Int)) = false := decide_eq_false (by omega)
          obtain ⟨p1, hp1⟩ : ∃ p1, pos + hs.size = p1 := ⟨_, rfl⟩
          have hp1i : (pos : Int) + (hs.size : Int) = (p1 : Int) := by omega
          rw [hp1] at hhead hstep cV
          have w2 : IntKind.i64.wrap (p1 : Int) = (p1 : Int) := IntWalk.i64_in _ (by omega)
          have e13 : ((s.extract pos p1).toList == hs.toList) = decide ((T.take p1).drop pos = headL L k) := by
            rw [toList_bl, toList_bl, bl_extract s pos p1 (by omega), hbl.out, hbh.out]
            by_cases h : (T.take p1).drop pos = headL L k
            · rw [h]; simp
            · rw [decide_eq_false h]; simpa using h
          have e13b : ((s.extract pos p1).toList != hs.toList) = !decide ((T.take p1).drop pos = headL L k) := by rw [← e13]; rfl
          by_cases hH : (T.take p1).drop pos = headL L k
          · rw [decide_eq_true hH] at e13 e13b
            have hst := Lib.hid (hstep.out (by rw [hTm.out]; omega) hH)
            have hhd2 := Lib.hid (fun g hg => (hhead.out g hg).2.2)
            clear hhead hstep hH
            have hp1p : (0 : Int) ≤ (pos : Int) + (hs.size : Int) := by omega
            have hE1 : p1 ≤ endV T p1 := by unfold endV; omega
            have hE2 : endV T p1 ≤ s.size := by
              unfold endV
              have := spn_le ne59 (T.drop p1)
              rw [List.length_drop, hTm.out] at this
              omega
            have hin := Lib.hid (show ∀ t, p1 ≤ t → t < endV T p1 → ∀ h : t < s.size, s[t].toNat ≠ 59 from fun t h1 h2 h3 e => by
              have := spn_in ne59 (T.drop p1) (t - p1) (by unfold endV at h2; omega)
              rw [ne59_get T p1 (t - p1) (by rw [hTm.out]; omega), show p1 + (t - p1) = t by omega] at this
              have g := hget.out t h3
              rw [hbl.out] at g
              rw [g] at this
              unfold ne59 at this
              rw [decide_eq_true (UInt8.toNat_inj.1 (by show s[t].toNat = 59; exact e))] at this
              cases this)
            have hou := Lib.hid (show ∀ h : endV T p1 < s.size, s[endV T p1].toNat = 59 from fun h => by
              have h2 := spn_out ne59 (T.drop p1) (by rw [List.length_drop, hTm.out]; unfold endV at h; omega)
              rw [ne59_get T p1 _ (by rw [hTm.out]; exact h)] at h2
              have g := hget.out (endV T p1) h
              rw [hbl.out] at g
              rw [show p1 + spn ne59 (T.drop p1) = endV T p1 from rfl, g] at h2
              unfold ne59 at h2
              by_cases e : s[endV T p1] = 59
              · rw [e]; rfl
              · rw [decide_eq_false e] at h2; cases h2)
            have hsv := Lib.hid (show s.extract p1 (endV T p1) = tx (partV T p1) from by
              have := bl_extract s p1 (endV T p1) hE2
              rw [hbl.out] at this
              unfold partV
              rw [← this, tx_bl])
            generalize hEE : endV T p1 = E at *
            generalize partV T p1 = PV at *
            clear hEE
            go_upto_region 16 with fail
            try any_goals (exfalso; omega; done)
            clear w1 w2 t1 e13 e13b hp1i hp1p hA
            go_wp2_with fail
            go_loopw [12] (fun x12 wr => ∃ t : Nat, p1 ≤ t ∧ t ≤ E ∧ x12 = .int .i64 t ∧ wr = wc) (fun x _ => E - (RowKit.intOf x).toNat)
            case atStart => exact ⟨p1, Nat.le_refl _, hE1, rfl, rfl⟩
            case round =>
              obtain ⟨t, ht1, ht2, rfl, hwr⟩ := hrel
              subst hwr
              have ht64 : IntKind.i64.wrap ((t : Int) + 1) = (t : Int) + 1 := IntWalk.i64_in _ (by omega)
              by_cases htE : t < E
              · have hts : t < s.size := by omega
                have hne := hin.out t ht1 htE hts
                have u1 : ((s[t].toNat : Int) == 59) = false := by
                  have : ¬ (s[t].toNat : Int) = 59 := by omega
                  simpa using this
                have u2 : ((s[t].toNat : Int) != 59) = true := by
                  have : ¬ (s[t].toNat : Int) = 59 := by omega
                  simpa using this
                go_wp2_with fail
                try any_goals (exfalso; omega; done)
                go_roundw
                case rel => exact ⟨t + 1, by omega, by omega, by go_num, by first | rfl | trivial⟩
                case measure => simp [RowKit.intOf]; omega
              · obtain rfl : t = E := by omega
                have e19 : ∀ w, (Instr.slice 9 (.string s) (some (.int .i64 (p1 : Int))) (some (.int .i64 (t : Int))) none).run Tryz.prog w = .ok (.string (s.extract p1 t)) w := fun w => by
                  have := run_slice_string (P := Tryz.prog) w 9 s .i64 .i64 (p1 : Int) (t : Int) Tryz.underlying9 (by omega) (by omega) (by omega)
                  simpa using this
                rw [hsv.out] at e19
                have cX := Lib.hid (cV.out wr.drew S3.out)
                obtain ⟨sv, hsv2⟩ : ∃ x, tx PV = x := ⟨_, rfl⟩
                rw [hsv2] at e19 cX
                clear hsv2 hsv cV
                have hd := Lib.hid (show Below wr.heap.size wr wr.drew from below_drewN (Below.refl _ _) 1)
                have hmain : True := trivial
                by_cases hts : t < s.size
                · have h59 := hou.out hts
                  have u1 : ((s[t].toNat : Int) == 59) = true := by
                    have : (s[t].toNat : Int) = 59 := by omega
                    simpa using this
                  have u2 : ((s[t].toNat : Int) != 59) = false := by
                    have : (s[t].toNat : Int) = 59 := by omega
                    simpa using this
                  go_upto_region 19 with fail
                  try any_goals (exfalso; omega; done)
                  go_cut [13, 14] (fun x13 x14 wx => ∃ (z : Int) (ok : Bool), x13 = .int .i64 z ∧ x14 = .bool ok ∧ Hid (Below wr.heap.size wr wx) ∧ Hid (ok = true → valT (at' L k) z = PV) ∧ Hid (∀ y, ReadOk (at' L k) PV y → ok = true ∧ z = y))
                  case first =>
                    go_region_with (refine cX.out.mono ?_; rintro e W5 ⟨z, ok, rfl, hB5, hyes, hno⟩)
                    all_goals
                      have B5 := Lib.hid (trans_b hd.out hB5)
                      have Hy := Lib.hid hyes
                      have Hn := Lib.hid hno
                      clear hB5 hyes hno
                      go_wp2_with fail
                      go_meet
                      case rel => exact ⟨z, ok, rfl, rfl, B5, Hy, Hn⟩
                  case rest =>
                    obtain ⟨z, ok, rfl, rfl, hB5, Hy, Hn⟩ := hcut
                    have B5 := Lib.hid (B3.out.trans (hB5.out.mono B3.out.size))
                    have R5 := Lib.hid (R3.out.keep hB5.out)
                    clear cX e19 z0 z1 z2 z3 z4 R3 B3 K3 S3 hd
                    cases ok with
                    | true =>
                      have hI2 := Lib.hid (hst.out z (Hy.out rfl) (fun y hy => (Hn.out y hy).2))
                      obtain ⟨i0, hi, hz0, hz1, hz2⟩ := info_parts info_int
                      have hlf := Lib.hid hI2.out.len
                      have hfl : f.length ≤ 6 := by have := hI2.out.len; rw [List.length_append, List.length_singleton] at this; omega
                      have hsz5 := B5.out.size
                      clear Hy Hn hst hhd2
                      go_wp2_with (at_builtin; refine wpList_append_one rfl (.tmp 85) (.tmp 87) 22 rfl W1.heap.size 3 .i64 i0 8 Tryz.underlying22 hi hz0 hz1 hz2 (by omega) u7 f rfl R5.out z rfl (by omega) hsz5 ?_; intro v' w6 hown hgrow; refine Hid.out ?_)
                      refine Lib.hid ?_
                      have R6 := Lib.hid hown
                      have B6 := Lib.hid (B5.out.grown hgrow hsz5 (fun g hg => (R5.out.block g hg).1))
                      clear hown hgrow hsz5 hi hz0 hz1 hz2 hfl
                      go_wp2_with fail
                      go_roundw
                      case rel => exact ⟨k + 1, t, f ++ [z], by omega, by omega, by go_num, rfl, hI2, R6, B6⟩
                      case measure => simp [RowKit.intOf]; omega
                    | false =>
                      have hno := Lib.hid (show ∀ g, ¬ Sol L T g from fun g hg => by have := (Hn.out _ (hhd2.out g hg)).1; cases this)
                      have B4 := Lib.hid (trans_b B1.out B5.out)
                      have hfin := Lib.hid (show ParseBe L T w (.returned (.tuple #[.slice none 0 0, .int .i64 5])) wc from .inr ⟨rfl, hno.out, B4.out⟩)
                      clear Hy Hn hst hhd2 hno
                      go_wp2_with fail
                      go_ret2
                      exact hfin.out
                · go_upto_region 19 with fail
                  try any_goals (exfalso; omega; done)
                  go_cut [13, 14] (fun x13 x14 wx => ∃ (z : Int) (ok : Bool), x13 = .int .i64 z ∧ x14 = .bool ok ∧ Hid (Below wr.heap.size wr wx) ∧ Hid (ok = true → valT (at' L k) z = PV) ∧ Hid (∀ y, ReadOk (at' L k) PV y → ok = true ∧ z = y))
                  case first =>
                    go_region_with (refine cX.out.mono ?_; rintro e W5 ⟨z, ok, rfl, hB5, hyes, hno⟩)
                    all_goals
                      have B5 := Lib.hid (trans_b hd.out hB5)
                      have Hy := Lib.hid hyes
                      have Hn := Lib.hid hno
                      clear hB5 hyes hno
                      go_wp2_with fail
                      go_meet
                      case rel => exact ⟨z, ok, rfl, rfl, B5, Hy, Hn⟩
                  case rest =>
                    obtain ⟨z, ok, rfl, rfl, hB5, Hy, Hn⟩ := hcut
                    have B5 := Lib.hid (B3.out.trans (hB5.out.mono B3.out.size))
                    have R5 := Lib.hid (R3.out.keep hB5.out)
                    clear cX e19 z0 z1 z2 z3 z4 R3 B3 K3 S3 hd
                    cases ok with
                    | true =>
                      have hI2 := Lib.hid (hst.out z (Hy.out rfl) (fun y hy => (Hn.out y hy).2))
                      obtain ⟨i0, hi, hz0, hz1, hz2⟩ := info_parts info_int
                      have hlf := Lib.hid hI2.out.len
                      have hfl : f.length ≤ 6 := by have := hI2.out.len; rw [List.length_append, List.length_singleton] at this; omega
                      have hsz5 := B5.out.size
                      clear Hy Hn hst hhd2
                      go_wp2_with (at_builtin; refine wpList_append_one rfl (.tmp 85) (.tmp 87) 22 rfl W1.heap.size 3 .i64 i0 8 Tryz.underlying22 hi hz0 hz1 hz2 (by omega) u7 f rfl R5.out z rfl (by omega) hsz5 ?_; intro v' w6 hown hgrow; refine Hid.out ?_)
                      refine Lib.hid ?_
                      have R6 := Lib.hid hown
                      have B6 := Lib.hid (B5.out.grown hgrow hsz5 (fun g hg => (R5.out.block g hg).1))
                      clear hown hgrow hsz5 hi hz0 hz1 hz2 hfl
                      go_wp2_with fail
                      go_roundw
                      case rel => exact ⟨k + 1, t, f ++ [z], by omega, by omega, by go_num, rfl, hI2, R6, B6⟩
                      case measure => simp [RowKit.intOf]; omega
                    | false =>
                      have hno := Lib.hid (show ∀ g, ¬ Sol L T g from fun g hg => by have := (Hn.out _ (hhd2.out g hg)).1; cases this)
                      have B4 := Lib.hid (trans_b B1.out B5.out)
                      have hfin := Lib.hid (show ParseBe L T w (.returned (.tuple #[.slice none 0 0, .int .i64 5])) wc from .inr ⟨rfl, hno.out, B4.out⟩)
                      clear Hy Hn hst hhd2 hno
                      go_wp2_with fail
                      go_ret2
                      exact hfin.out
          · rw [decide_eq_false hH] at e13 e13b
            have hno := Lib.hid (show ∀ g, ¬ Sol L T g from fun g hg => hH (hhead.out g hg).2.1)
            have B4 := Lib.hid (trans_b B1.out B3.out)
            have hfin := Lib.hid (show ParseBe L T w (.returned (.tuple #[.slice none 0 0, .int .i64 5])) wc from .inr ⟨rfl, hno.out, B4.out⟩)
            clear hhead hstep hH hno
            go_wp2_with fail
            try any_goals (exfalso; omega; done)
            go_ret2
            exact hfin.out
        · have t1 : decide ((s.size : Int) - (pos : Int) < (hs.size : Int)) = true := decide_eq_true (by omega)
          have hno := Lib.hid (show ∀ g, ¬ Sol L T g from fun g hg => hA (by have := (hhead.out g hg).1; rw [hTm.out] at this; exact this))
          have B4 := Lib.hid (trans_b B1.out B3.out)
          have hfin := Lib.hid (show ParseBe L T w (.returned (.tuple #[.slice none 0 0, .int .i64 5])) wc from .inr ⟨rfl, hno.out, B4.out⟩)
          clear hhead hstep hno
          go_wp2_with fail
          try any_goals (exfalso; omega; done)
          go_ret2
          exact hfin.out
    · obtain rfl : k = n := by omega
      have hI2 := Lib.hid (show Inv L T f L.length pos from by rw [hn'.out]; exact hI.out)
      have hfl : f.length ≤ 9223372036854775807 := by have := hI.out.len; omega
      obtain ⟨p7, c7, hu7, _⟩ := hR.out.shape
      have A2 := Lib.hid (A1.out.below hB.out)
      have cX := Lib.hid (cF.out wr u7 f A2.out hR.out.ints hfl)
      subst hu7
      by_cases hps : pos = s.size
      · have hpT := Lib.hid (show pos = T.length from by rw [hTm.out]; exact hps)
        have t1 : ((pos : Int) == (s.size : Int)) = true := by simp; omega
        have t2 : ((pos : Int) != (s.size : Int)) = false := by simp; omega
        have hdn := Lib.hid (fun h => inv_done hI2.out hpT.out h)
        have hls := Lib.hid (fun g hg => (inv_last hI2.out g hg).2)
        clear hI hI2 hpT A2
        generalize factsB L f = q at *
        go_wp2_with fail
        try any_goals (exfalso; omega; done)
        refine cX.out.mono ?_; rintro e W5 ⟨rfl, hB5⟩
        have R5 := Lib.hid (hR.out.keep hB5)
        have B5 := Lib.hid (hB.out.trans (hB5.mono hB.out.size))
        have B6 := Lib.hid (trans_b B1.out B5.out)
        clear hB5 cX
        cases q with
        | true =>
          have hfin := Lib.hid (show ParseBe L T w (.returned (.tuple #[.slice p7 f.length c7, .int .i64 0])) W5 from .inl ⟨_, f, rfl, hdn.out rfl, R5.out.mono B1.out.size, B6.out⟩)
          clear hdn hls
          go_wp2_with fail
          go_ret2
          exact hfin.out
        | false =>
          have hfin := Lib.hid (show ParseBe L T w (.returned (.tuple #[.slice none 0 0, .int .i64 5])) W5 from .inr ⟨rfl, (fun g hg => by have := hls.out g hg; cases this), B6.out⟩)
          clear hdn hls
          go_wp2_with fail
          go_ret2
          exact hfin.out
      · have t1 : ((pos : Int) == (s.size : Int)) = false := by
          have : ¬ (pos : Int) = (s.size : Int) := by omega
          simpa using this
        have t2 : ((pos : Int) != (s.size : Int)) = true := by
          have : ¬ (pos : Int) = (s.size : Int) := by omega
          simpa using this
        have hno := Lib.hid (show ∀ g, ¬ Sol L T g from fun g hg => hps (by have := (inv_last hI2.out g hg).1; rw [hTm.out] at this; exact this))
        have B6 := Lib.hid (trans_b B1.out hB.out)
        have hfin := Lib.hid (show ParseBe L T w (.returned (.tuple #[.slice none 0 0, .int .i64 5])) wr from .inr ⟨rfl, hno.out, B6.out⟩)
        clear hI hI2 hno cX A2
        go_wp2_with fail
        try any_goals (exfalso; omega; done)
        go_ret2
        exact hfin.out
end Go.Proofs.YtdehldcgakdobaaGreatDoor.Sc
