/- LexerOnce's walk. -/
import Derived.Test.YtaengcbjpniclaaGreatDoorLxOnce
import Derived.Test.YtaengcbjpniclaaGreatDoorLxJWalk
namespace Go.Proofs.YtaengcbjpniclaaGreatDoor.Lx
open Go.RowKit Go.Lib Go.Proofs.YtaengcbjpniclaaGreatDoor.Bas Go.Proofs.YtaengcbjpniclaaGreatDoor.Cal Go.Proofs.YtaengcbjpniclaaGreatDoor.Spl Go.Proofs.YtaengcbjpniclaaGreatDoor.Dk
set_option linter.unusedVariables false

theorem sl_head (s : List UInt8) (k : Nat) (hk : k ≤ s.length) (h : s.length ≤ 4611686018427387904) (w : World) : (Instr.slice 9 (.string (tx s)) none (some (.int .i64 (k : Int))) none).run Tryz.prog w = .ok (.string (tx (s.take k))) w := by
  rw [run_slice_string_h w _ (tx s) Tryz.underlying9 .i64 (k : Int) (by omega) (by rw [tx_size]; omega), Int.toNat_natCast, ← tx_bl ((tx s).extract 0 k), bl_take (tx s) k (by rw [tx_size]; exact hk), bl_tx]
theorem sl_tail (s : List UInt8) (k : Nat) (hk : k ≤ s.length) (h : s.length ≤ 4611686018427387904) (w : World) : (Instr.slice 9 (.string (tx s)) (some (.int .i64 (k : Int))) none none).run Tryz.prog w = .ok (.string (tx (s.drop k))) w := by
  rw [run_slice_string_l w _ (tx s) Tryz.underlying9 .i64 (k : Int) (by omega) (by rw [tx_size]; omega), Int.toNat_natCast, ← tx_bl ((tx s).extract k (tx s).size), bl_extract (tx s) k _ (Nat.le_refl _), bl_tx, tx_size, List.take_of_length_le (Nat.le_refl _)]
set_option maxRecDepth 8000 in
set_option maxHeartbeats 16000000 in
theorem onceW (f : ByteArray) (v : Value) (l : List Int) (vh : Value) (lh : List Int) (w : World) (hE : Env w) (hf : f.size ≤ 9223372036854775807) (hI : IntsAt w v l) (hl : l.length ≤ 9223372036854775807) (hw : ∀ x ∈ l, -9223372036854775808 ≤ x ∧ x ≤ 9223372036854775807)
    (hH : NumsAt .u8 w vh lh) (hlh : lh.length ≤ 9223372036854775807) (hwh : ∀ x ∈ lh, 0 ≤ x ∧ x ≤ 255) :
    Calls Tryz.prog 4 #[.string f, v, vh] w (BoolBe true w) := by
  have cA := Lib.hid awake_any
  have E0 := Lib.hid hE
  by_cases h2 : 2000 < f.size
  · have u1 : decide ((2000 : Int) < (f.size : Int)) = true := by simp; omega
    have u2 : decide (2000 < f.size) = true := by simp; omega
    clear hE hI hl hw hH hlh hwh
    go_enter Tryz.func4, Tryz.ntmps4
    go_wp2_with fail
    refine (cA.out _ E0.out).mono ?_; rintro e W5 ⟨rfl, hB5⟩
    have B5 := Lib.hid hB5
    clear hB5
    go_wp2_with fail
    go_ret
    exact ⟨rfl, B5.out⟩
  · have u1 : decide ((2000 : Int) < (f.size : Int)) = false := by simp; omega
    have u2 : decide (2000 < f.size) = false := by simp; omega
    have cT := Lib.hid (toks_any v l w hI hl hw)
    have hH' := Lib.hid hH
    have hwh' := Lib.hid hwh
    obtain ⟨pv, cv, rfl, _⟩ := hI
    obtain ⟨ph, ch, rfl, hph⟩ := hH
    obtain ⟨nh, hnh⟩ : ∃ n, lh.length = n := ⟨_, rfl⟩
    have hnh' := Lib.hid hnh
    rw [hnh] at hlh hH' ⊢
    obtain ⟨nv, hnv⟩ : ∃ n, l.length = n := ⟨_, rfl⟩
    rw [hnv] at hl cT ⊢
    clear hE hw hwh hph hnh hnv
    go_enter Tryz.func4, Tryz.ntmps4
    go_upto_if 25 with (fail)
    clear u1 u2
    go_cut [0] (fun x wx => ∃ g : ByteArray, x = .string g ∧ g.size ≤ 2000 ∧ Hid (Below w.heap.size w wx))
    case first =>
      by_cases hv0 : 0 < nv
      · have u1 : decide ((0 : Int) < (nv : Int)) = true := by simp; omega
        have u2 : decide (0 < nv) = true := by simp; omega
        go_wp2_with fail
        refine cT.out.mono ?_; rintro e W1 ⟨u, L, rfl, hv, hL, hR, hB⟩
        have B1 := Lib.hid hB
        have cJ := Lib.hid (rjoin_any u L W1 hR.at (val_len2 L hv) (by omega))
        obtain ⟨hj, _⟩ := back_all L hv (by omega) (by have := joinT_len L hv [40]; omega)
        have hjl := joinT_len L hv [40]
        rw [hj] at cJ
        generalize joinT [40] L = J at *
        have hjl2 : J.length ≤ 660 := by omega
        clear cT hv hL hR hB hj hjl
        go_wp2_with fail
        refine cJ.out.mono ?_; rintro e W2 ⟨rfl, hB2⟩
        have B2 := Lib.hid (trans_at B1.out hB2)
        have cW := Lib.hid (fun (z : Int) (n : Nat) W (h1 : 0 ≤ z) (h2 : z ≤ 2000) (h3 : 0 < n) (h4 : n ≤ 1000000) => within_any z n W (by omega) (by omega) (by omega) (by omega))
        have H2 := Lib.hid (nums_below hH'.out B2.out)
        clear hB2 B1 cJ hH'
        go_wp2_with fail
        clear u1 u2
        go_loopw [0, 7] (fun x0 x7 wr => ∃ (k : Nat) (s : List UInt8), x7 = .int .i64 k ∧ x0 = .string (tx s) ∧ k ≤ 20 ∧ s.length ≤ 660 + k ∧ Hid (Below W2.heap.size W2 wr)) (fun _ i _ => 20 - (RowKit.intOf i).toNat)
        case atStart => exact ⟨0, J, rfl, rfl, by omega, by omega, Lib.hid (Below.refl _ _)⟩
        case round =>
          obtain ⟨k, s, rfl, rfl, hk, hs, hBk⟩ := hrel
          by_cases hlt : k < nh
          · have u1 : decide ((k : Int) < (nh : Int)) = true := by simp; omega
            by_cases h20 : k < 20
            · have u2 : decide ((k : Int) < 20) = true := by simp; omega
              have u3 : decide (k < 20) = true := by simp; omega
              have H3 := nums_below H2.out hBk.out
              obtain ⟨p3, c3, hv3, hp3⟩ := H3
              obtain ⟨b3, o3, hpb3, hc3⟩ := hp3 (by rw [hnh'.out]; omega)
              obtain rfl : p3 = ph := by cases hv3; rfl
              subst hpb3
              have hz := hc3 k (by rw [hnh'.out]; exact hlt)
              have hzb := hwh'.out _ (Spl.getD_mem (l := lh) (k := k) (by rw [hnh'.out]; exact hlt))
              have hz1 := hzb.1
              have hz2 := hzb.2
              clear hv3 hp3 hc3 hzb
              generalize lh.getD k 0 = z at *
              have hw7 : IntKind.i64.wrap (z * 7) = z * 7 := IntWalk.i64_in _ (by omega)
              have hsz : (tx s).size = s.length := tx_size s
              have hw1 : IntKind.i64.wrap ((s.length : Int) + 1) = (s.length : Int) + 1 := IntWalk.i64_in _ (by omega)
              have cX := Lib.hid (within_any (z * 7) ((s.length : Int) + 1) wr (by omega) (by omega) (by omega) (by omega))
              obtain ⟨q1, q2⟩ := wi_bd (z * 7) ((s.length : Int) + 1) (by omega)
              obtain ⟨m, hm⟩ : ∃ m : Nat, wi (z * 7) ((s.length : Int) + 1) = m := ⟨(wi (z * 7) ((s.length : Int) + 1)).toNat, by omega⟩
              rw [hm] at cX q2
              have hms : m ≤ s.length := by omega
              have sl1 := fun w => sl_head s m hms (by omega) w
              have sl2 := fun w => sl_tail s m hms (by omega) w
              have a1 : ∀ w, (Op.stringOp .add (tx (s.take m)) { data := #[32] }).run Tryz.prog w = .ok (.string (tx (s.take m ++ [32]))) w := fun w => tx_cat _ [32] _ w (by rw [List.length_take]; simp; omega)
              have a2 : ∀ w, (Op.stringOp .add (tx (s.take m ++ [32])) (tx (s.drop m))).run Tryz.prog w = .ok (.string (tx (s.take m ++ [32] ++ s.drop m))) w := fun w => tx_cat _ _ _ w (by simp; omega)
              have hl2 : (s.take m ++ [32] ++ s.drop m).length ≤ 660 + (k + 1) := by simp; omega
              generalize s.take m ++ [32] ++ s.drop m = s2 at *
              obtain ⟨g1, hg1⟩ : ∃ g, tx (s.take m) = g := ⟨_, rfl⟩
              obtain ⟨g2, hg2⟩ : ∃ g, tx (s.drop m) = g := ⟨_, rfl⟩
              obtain ⟨g3, hg3⟩ : ∃ g, tx (s.take m ++ [32]) = g := ⟨_, rfl⟩
              rw [hg1] at sl1 a1
              rw [hg2] at sl2 a2
              rw [hg3] at a1 a2
              have hk64 : IntKind.i64.wrap ((k : Int) + 1) = (k : Int) + 1 := IntWalk.i64_in _ (by omega)
              clear hm hg1 hg2 hg3 q1
              go_upto_region 9 with (refine cX.out.mono ?_; rintro e w' ⟨rfl, rfl⟩)
              go_quiet (fail)
              go_wp2_with fail
              go_roundw
              case rel => exact ⟨k + 1, s2, by go_num, rfl, by omega, hl2, Lib.hid (below_drewN hBk.out _)⟩
              case measure => simp [RowKit.intOf]; omega
            · have u2 : decide ((k : Int) < 20) = false := by simp; omega
              have u3 : decide (k < 20) = false := by simp; omega
              go_wp2_with fail
              go_meet
              case rel => exact ⟨tx s, rfl, by rw [tx_size]; omega, Lib.hid (B2.out.trans (hBk.out.mono B2.out.size))⟩
          · have u1 : decide ((k : Int) < (nh : Int)) = false := by simp; omega
            go_wp2_with fail
            go_meet
            case rel => exact ⟨tx s, rfl, by rw [tx_size]; omega, Lib.hid (B2.out.trans (hBk.out.mono B2.out.size))⟩
      · have u1 : decide ((0 : Int) < (nv : Int)) = false := by simp; omega
        have u2 : decide (0 < nv) = false := by simp; omega
        go_wp2_with fail
        go_meet
        case rel => exact ⟨f, rfl, by omega, Lib.hid (Below.refl _ _)⟩
    case rest =>
      obtain ⟨g, rfl, hg, hB⟩ := hcut
      have E1 := Lib.hid (E0.out.keep hB.out)
      have B1 := hB
      clear hB E0 cT hH'
      have cS := Lib.hid (scan_any g wc E1.out (by omega))
      have hgl : (bl g).length ≤ 2000 := by rw [bl_size]; exact hg
      generalize hV : scanV (bl g) = V at *
      obtain ⟨L, at', er⟩ := V
      go_wp2_with fail
      refine cS.out.mono ?_; rintro e W2 ⟨u, rfl, hR, hB2⟩
      have B2 := Lib.hid (trans_at B1.out hB2)
      have E2 := Lib.hid (E1.out.keep hB2)
      have R2 := Lib.hid hR
      obtain ⟨pu, cu, hu, _, _⟩ := hR.at
      clear cS B1 E1 hB2 hR
      by_cases her : er = 0
      · subst her
        obtain ⟨J, M, h1, h2, h3, h4, h5, h6, h7, h8⟩ := once_ok (bl g) L at' hV hgl
        have hu' : u = .slice pu L.length cu := hu
        subst hu'
        have c1 := Lib.hid (join_any _ L W2 E2.out R2.out.at (val_len2 L h6) (by omega))
        rw [h1] at c1
        have cS := Lib.hid (fun W (hE : Env W) => scan_any (tx J) W hE (by rw [tx_size]; omega))
        rw [bl_tx, h3] at cS
        have c2 := Lib.hid (fun um W (hE : Env W) (hT : TksAt W um M) => join_any um M W hE hT (val_len2 M h7) (by omega))
        rw [h4] at c2
        have h5' := Lib.hid h5
        obtain ⟨n, hn⟩ : ∃ n, L.length = n := ⟨_, rfl⟩
        rw [hn] at h5' c1 ⊢
        clear h1 h2 h3 h4 h5 h6 h7 h8 hV hgl hn hu
        go_wp2_with fail
        refine c1.out.mono ?_; rintro e W3 ⟨rfl, hB3⟩
        have B3 := Lib.hid (trans_at B2.out hB3)
        have E3 := Lib.hid (E2.out.keep hB3)
        clear hB3 c1 B2 E2 R2
        go_wp2_with fail
        refine (cS.out _ E3.out).mono ?_; rintro e W4 ⟨um, rfl, hR4, hB4⟩
        have B4 := Lib.hid (trans_at B3.out hB4)
        have E4 := Lib.hid (E3.out.keep hB4)
        have c3 := Lib.hid (c2.out um W4 E4.out hR4.at)
        obtain ⟨pm, cm, hm, _, _⟩ := hR4.at
        have hm' : um = .slice pm n cm := by rw [← h5'.out]; exact hm
        subst hm'
        clear hB4 cS B3 E3 hR4 hm c2
        go_wp2_with fail
        refine c3.out.mono ?_; rintro e W5 ⟨rfl, hB5⟩
        have B5 := Lib.hid (trans_at B4.out hB5)
        have E5 := Lib.hid (E4.out.keep hB5)
        clear hB5 c3 B4 E4
        go_wp2_with fail
        refine (cA.out _ E5.out).mono ?_; rintro e W6 ⟨rfl, hB6⟩
        have B6 := Lib.hid (trans_at B5.out hB6)
        clear hB6
        go_wp2_with fail
        go_ret
        exact ⟨rfl, B6.out⟩
      · have u3 : (er == 0) = false := by simpa using her
        clear hV hgl hu
        go_wp2_with fail
        refine (cA.out _ E2.out).mono ?_; rintro e W6 ⟨rfl, hB6⟩
        have B6 := Lib.hid (trans_at B2.out hB6)
        clear hB6
        go_wp2_with fail
        go_ret
        exact ⟨rfl, B6.out⟩
theorem once_walk (f : ByteArray) (v : Value) (l : List Int) (vh : Value) (lh : List Int) (w : World) (hE : Env w) (hf : f.size ≤ maxLen) (hI : IntsAt w v l) (hl : l.length ≤ 9223372036854775807) (hw : ∀ x ∈ l, (Lit.int .i64 x).wf = true)
    (hH : NumsAt .u8 w vh lh) (hlh : lh.length ≤ 9223372036854775807) (hwh : ∀ x ∈ lh, (Lit.int .u8 x).wf = true) : Calls Tryz.prog 4 #[.string f, v, vh] w (BoolBe true w) :=
  onceW f v l vh lh w hE (by unfold maxLen at hf; omega) hI hl (fun x hx => Go.bounds_i64 (hw x hx)) hH hlh (fun x hx => Go.bounds_u8 (hwh x hx))
end Go.Proofs.YtaengcbjpniclaaGreatDoor.Lx
