/- SchemaParse's walk. -/
import Derived.Test.YtdehldcgakdobaaGreatDoorScEnd
import Derived.Test.YtdehldcgakdobaaGreatDoorScRPar
import Derived.Test.YtdehldcgakdobaaGreatDoorScPParse
import Derived.Test.YtdehldcgakdobaaGreatDoorScSame
import Derived.Test.YtdehldcgakdobaaGreatDoorScDeck
import Derived.Test.YtdehldcgakdobaaGreatDoorScFmt2
namespace Go.Proofs.YtdehldcgakdobaaGreatDoor.Sc
open Go.RowKit Go.Lib Go.Proofs.YtdehldcgakdobaaGreatDoor.Bas Go.Proofs.YtdehldcgakdobaaGreatDoor.Cal Go.Proofs.YtdehldcgakdobaaGreatDoor.Lx Go.Proofs.YtdehldcgakdobaaGreatDoor.Dk
set_option linter.unusedVariables false

/-- How a parse ends: the facts, or none. -/
def PStat (L : List At) (T : List UInt8) (A : List Int) (r : Int) : Prop := (r = 0 ∧ Sol L T A) ∨ (r = 5 ∧ A = [] ∧ ∀ g, ¬ Sol L T g)
theorem pstat_one {L : List At} {T : List UInt8} {A B : List Int} {r q : Int} (h : PStat L T A r) (k : PStat L T B q) : A = B ∧ r = q := by
  rcases h with ⟨h1, h2⟩ | ⟨h1, h2, h3⟩ <;> rcases k with ⟨k1, k2⟩ | ⟨k1, k2, k3⟩
  · exact ⟨sol_one h2 k2, by omega⟩
  · exact absurd h2 (k3 _)
  · exact absurd k2 (h3 _)
  · exact ⟨by rw [h2, k2], by omega⟩
def POut (L : List At) (T : List UInt8) (w : World) (e : Ending) (w' : World) : Prop := ∃ (p : Option Addr) (c : Nat) (A : List Int) (r : Int), e = .returned (.tuple #[.slice p A.length c, .int .i64 r]) ∧ PStat L T A r ∧ IntsAt w' (.slice p A.length c) A ∧ A.length ≤ 6 ∧ Below w.heap.size w w'
theorem pout_of {L : List At} {T : List UInt8} {w : World} {e : Ending} {w' : World} (h6 : L.length ≤ 6) (h : ParseBe L T w e w') : POut L T w e w' := by
  rcases h with ⟨u, f, rfl, hS, hR, hB⟩ | ⟨rfl, hno, hB⟩
  · obtain ⟨p, c, rfl, _⟩ := hR.shape
    exact ⟨p, c, f, 0, rfl, .inl ⟨rfl, hS⟩, hR.ints, by rw [(facts_ok L f hS.1).2.1]; exact h6, hB⟩
  · exact ⟨none, 0, [], 5, rfl, .inr ⟨rfl, rfl, hno⟩, ⟨none, 0, rfl, fun h => by simp at h⟩, by simp, hB⟩
theorem byte_of (b : Int) (b1 : 0 ≤ b) (b2 : b ≤ 255) : ∃ x : UInt8, b = (x.toNat : Int) := ⟨UInt8.ofNat b.toNat, by
  have : (UInt8.ofNat b.toNat).toNat = b.toNat % 256 := by simp
  omega⟩
theorem txx (s : ByteArray) (a b : Nat) (h : b ≤ s.size) : s.extract a b = tx (((bl s).take b).drop a) := by rw [← bl_extract s a b h, tx_bl]
/-- One byte as a text. -/
theorem byte_text (w w' : World) (g : Nat) (c : UInt8) (h : w'.cell? ⟨g, 0, none⟩ = some (.int .u8 (c.toNat : Int))) : (convert 39 9 (.slice (some ⟨g, 0, none⟩) 1 1)).run Tryz.prog w' = .ok (.string (tx [c])) w' :=
  run_convert_bytes_back w' 39 9 5 ⟨g, 0, none⟩ 1 [c] Tryz.underlying39 Tryz.underlying5 Tryz.underlying9 (fun j hj => by
    have hj2 : j < 1 := hj
    obtain rfl : j = 0 := by omega
    simpa [Addr.add] using h)
theorem parse_skip (s : ByteArray) (k : Int) (vd : Value) (a b h : Int) (w : World) (hE : EnvS w) (hs : 300 < s.size) : Calls Tryz.prog 4 #[.string s, .int .i64 k, vd, .int .i64 a, .int .u8 b, .int .u8 h] w (BoolBe true w) := by
  have c := Lib.hid (awake_of w hE)
  have t1 : decide ((300 : Int) < (s.size : Int)) = true := decide_eq_true (by omega)
  have t2 : decide (300 < s.size) = true := decide_eq_true hs
  go_enter Tryz.func4, Tryz.ntmps4
  go_wp2_with fail
  try any_goals (exfalso; omega; done)
  refine c.out.mono ?_; rintro e w' ⟨rfl, hB⟩
  have b1 := Lib.hid hB
  clear hB
  go_wp2_with fail
  go_ret
  exact ⟨rfl, b1.out⟩
set_option maxRecDepth 8000 in
set_option maxHeartbeats 32000000 in
theorem parse_main (s : ByteArray) (k : Int) (vd : Value) (l : List Int) (a : Int) (c : UInt8) (h : Int) (w : World) (hE : EnvS w) (hs : s.size ≤ 300) (hk : -9223372036854775808 ≤ k ∧ k ≤ 9223372036854775807) (hD : IntsAt w vd l) (hld : l.length ≤ 9223372036854775807) (hwd : ∀ x ∈ l, -9223372036854775808 ≤ x ∧ x ≤ 9223372036854775807)
    (ha : -9223372036854775808 ≤ a ∧ a ≤ 9223372036854775807) (hh : 0 ≤ h ∧ h ≤ 255) :
    Calls Tryz.prog 4 #[.string s, .int .i64 k, vd, .int .i64 a, .int .u8 (c.toNat : Int), .int .u8 h] w (BoolBe true w) := by
  have cNew := Lib.hid (fun W (hb : Below w.heap.size w W) => new_any vd l W (hD.below hb) hld hwd)
  have cK := Lib.hid (fun w => made_any k w hk.1 hk.2)
  have hkb := wi_bd k 6 (by omega)
  have hmo := Lib.hid (made_ok (wi k 6) (by omega))
  have hE' := Lib.hid hE
  obtain ⟨pd, cd, rfl, _⟩ := hD
  generalize madeS (wi k 6) = M at *
  generalize wi k 6 = kx at *
  have hM := (schE_ok M hmo.out.1)
  have hM1 := hM.1
  have hM6 := hM.2.1
  have hTl : (bl s).length ≤ 9000 := by rw [bl_size]; omega
  have hM6h := Lib.hid hM6
  have cP := Lib.hid (fun us (T : List UInt8) (hT : T.length ≤ 9000) W hE hA => (pparse_any us M T W hE hA hmo.out.2 hmo.out.1 hT).mono fun e w' h => pout_of hM6h.out h)
  have cR := Lib.hid (fun us (T : List UInt8) (hT : T.length ≤ 9000) W hA => (rparse_any us M T W hA hmo.out.2 hmo.out.1 hT).mono fun e w' h => pout_of hM6h.out h)
  have c1 := Lib.hid (fun us W hE hA => by have := cP.out us (bl s) hTl W hE hA; rw [tx_bl] at this; exact this)
  have c2 := Lib.hid (fun us W hA => by have := cR.out us (bl s) hTl W hA; rw [tx_bl] at this; exact this)
  have t1 : decide ((300 : Int) < (s.size : Int)) = false := decide_eq_false (by omega)
  have t2 : decide (300 < s.size) = false := decide_eq_false (by omega)
  clear hE hwd hld hk hkb hM hTl
  go_enter Tryz.func4, Tryz.ntmps4
  go_upto_region 3 with fail
  try any_goals (exfalso; omega; done)
  clear t1 t2 hs
  go_wp2_with fail
  refine (cK.out w).mono ?_; rintro e W3 ⟨us, rfl, hAs, hB3⟩
  have B3 := Lib.hid hB3
  have E3 := Lib.hid (hE'.out.keep hB3)
  have As := Lib.hid hAs
  obtain ⟨ps, cs, rfl, _, _⟩ := hAs
  clear hB3 hE' cK
  go_upto_region 4 with fail
  have O4 := Lib.hid (OAt.new W3 (.slice ps M.length cs) 25)
  have hal := alloc_at W3 (.cells #[.slice ps M.length cs] 25)
  have A4 := Lib.hid (As.out.below hal)
  have B4 := Lib.hid (trans_b B3.out hal)
  have E4 := Lib.hid (E3.out.keep hal)
  obtain ⟨b5, hb5⟩ : ∃ b, W3.heap.size = b := ⟨_, rfl⟩
  rw [hb5] at O4 ⊢
  clear hb5 hal As E3 B3
  generalize W3.alloc (.cells #[.slice ps M.length cs] 25) = W4 at *
  have x4 := O4.out.2
  have cX := Lib.hid (c1.out _ W4 E4.out A4.out)
  clear c1
  go_wp2_with fail
  refine cX.out.mono ?_; rintro e W5 ⟨p5, q5, F1, r1, rfl, hP1, hI1, hl1, hB5⟩
  have B5 := Lib.hid (trans_b B4.out hB5)
  have E5 := Lib.hid (E4.out.keep hB5)
  have A5 := Lib.hid (A4.out.below hB5)
  have O5 := Lib.hid (O4.out.keep hB5)
  have I5 := Lib.hid hI1
  have P5 := Lib.hid hP1
  clear hB5 cX x4 E4 A4 O4 B4 hI1 hP1
  have x5 := O5.out.2
  have cX := Lib.hid (c2.out _ W5 A5.out)
  clear c2
  go_wp2_with fail
  refine cX.out.mono ?_; rintro e W6 ⟨p6, q6, F2, r2, rfl, hP2, hI2, hl2, hB6⟩
  obtain ⟨hFF, hrr⟩ := pstat_one P5.out hP2
  subst hFF
  subst hrr
  have B6 := Lib.hid (trans_b B5.out hB6)
  have E6 := Lib.hid (E5.out.keep hB6)
  have A6 := Lib.hid (A5.out.below hB6)
  have O6 := Lib.hid (O5.out.keep hB6)
  have I6 := Lib.hid (I5.out.below hB6)
  have J6 := Lib.hid hI2
  have cS := Lib.hid (by have := sints_any _ _ F1 F1 W6 I6.out J6.out (by omega) (by omega); rw [decide_eq_true (rfl : F1 = F1)] at this; exact this)
  clear hB6 cX x5 E5 A5 O5 B5 I5 P5 hI2 hP2 hl2
  have u1 : (r1 == r1) = true := by simp
  have u2 : (r1 != r1) = false := by simp
  go_wp2_with fail
  refine cS.out.mono ?_; rintro e W7 ⟨rfl, hD7⟩
  have B7 := Lib.hid (below_dr B6.out hD7)
  have E7 := Lib.hid (show EnvS W7 from by obtain ⟨nd, rfl⟩ := hD7; exact E6.out.drewN nd)
  have A7 := Lib.hid (A6.out.below (below_dr (Below.refl _ _) hD7))
  have O7 := Lib.hid (O6.out.keep (below_dr (Below.refl _ _) hD7))
  clear hD7 cS I6 J6 E6 A6 O6 B6 hl1
  have x7 := O7.out.2
  go_upto_region 8 with fail
  try any_goals (exfalso; omega; done)
  clear u1 u2
  have hMl9 : M.length ≤ 9223372036854775807 := by omega
  go_cut [18] (fun x18 wx => ∃ TT : List UInt8, x18 = .string (tx TT) ∧ 1 ≤ TT.length ∧ TT.length ≤ 300 ∧ Hid (Below W7.heap.size W7 wx))
  case first =>
    have hFB' := Lib.hid (fun (F : List Int) (hF : F.length = M.length) (hIn : ∀ j, j < M.length → InD (at' M j) (F.getD j 0)) => (show factsB M F = true from decide_eq_true ⟨hmo.out.1, hF, fun i hi => hIn i hi⟩))
    go_region_with (first | (refine (cNew.out _ (below_drewN B7.out 1)).mono ?_; rintro e w' ⟨d, rfl, hDx, hBx⟩; have x8 := (OAt.keep (w := W7) O7.out (trans_b (below_drewN (Below.refl _ _) 1) hBx)).2) | (refine (dfacts_any _ _ _ l W7 _ (.slice ps M.length cs) M A7.out (trans_b (below_drewN (Below.refl _ _) 1) hBx) (hDx.ge) hmo.out.1 hmo.out.2 hDx).mono ?_; rintro e w' ⟨uF, F, rfl, hF1, hF2, hRF, hDF, hKF⟩; have hs1 := hBx.size; have hBz := (trans_b (below_drewN (Below.refl W7.heap.size W7) 1) hBx).trans (hKF.below (B := W7.heap.size) hDx.ge hs1); have x9 := (OAt.keep (w := W7) O7.out hBz).2) | (refine (rfmt_good (.slice ps M.length cs) _ M _ F (A7.out.below hBz) hmo.out.2 hRF.ints (hFB'.out F hF1 hF2)).mono ?_; rintro e w' ⟨rfl, hBq⟩))
    all_goals
      have hFBt := hFB'.out F hF1 hF2
      have hge := fmtP_ge M F M.length
      have hle := fmtP_len M F hFBt M.length (Nat.le_refl _)
      have hBr' := Lib.hid (trans_b hBz hBq)
      clear hFB' hFBt hBz hBq hF1 hF2 hRF hDF hKF hs1 x8 x9 hDx hBx
      generalize fmtP M F M.length = TT at *
      go_wp2_with fail
      go_meet
      case rel => exact ⟨TT, rfl, by omega, by omega, hBr'⟩
  case rest =>
    obtain ⟨TT, rfl, hT1, hT3, hB8⟩ := hcut
    have A8 := Lib.hid (A7.out.below hB8.out)
    have O8 := Lib.hid (O7.out.keep hB8.out)
    have E8 := Lib.hid (E7.out.keep hB8.out)
    have B8 := Lib.hid (trans_b B7.out hB8.out)
    have x8 := O8.out.2
    obtain ⟨m, hm⟩ : ∃ m, TT.length = m := ⟨_, rfl⟩
    have hz : (tx TT).size = m := by rw [tx_size]; exact hm
    rw [hm] at hT1 hT3
    obtain ⟨kw1, kw2⟩ := wi_bd a m (by omega)
    obtain ⟨kk, hkk⟩ : ∃ kk : Nat, wi a m = kk := ⟨(wi a m).toNat, by omega⟩
    have cW := Lib.hid (fun W => within_any a m W ha.1 ha.2 (by omega) (by omega))
    rw [hkk] at cW kw2
    have hkn : kk < m := by omega
    clear hm cNew x7 A7 O7 E7 B7 hkk kw1 kw2 hB8 ha hMl9 hM1 hM6 hM6h
    go_wp2_with fail
    refine (cW.out _).mono ?_; rintro e w' ⟨rfl, rfl⟩
    clear cW
    have hr : h % 3 = 0 ∨ h % 3 = 1 ∨ h % 3 = 2 := by omega
    go_upto_block 0 with (fail)
    generalize h % 3 = r at *
    go_cut [18] (fun x18 wx => ∃ T2 : List UInt8, x18 = .string (tx T2) ∧ T2.length ≤ 400 ∧ Hid (Below wc.heap.size wc wx))
    case first =>
      have hkw : IntKind.i64.wrap ((kk : Int) + 1) = (kk : Int) + 1 := IntWalk.i64_in _ (by omega)
      have hzl : TT.length = m := by rw [← hz, tx_size]
      have e1 : ∀ w, (Instr.slice 9 (.string (tx TT)) none (some (.int .i64 ((kk : Int)))) none).run Tryz.prog w = .ok (.string (tx (TT.take kk))) w := fun w => by
        rw [run_slice_string_h w _ _ Tryz.underlying9 .i64 ((kk : Int)) (by omega) (by rw [hz]; omega), show ((kk : Int)).toNat = kk by omega, txx _ _ _ (by rw [hz]; omega), bl_tx, List.drop_zero]
      have e2 : ∀ w, (Instr.slice 9 (.string (tx TT)) (some (.int .i64 ((kk : Int) + 1))) none none).run Tryz.prog w = .ok (.string (tx (TT.drop (kk + 1)))) w := fun w => by
        rw [run_slice_string_l w _ _ Tryz.underlying9 .i64 ((kk : Int) + 1) (by omega) (by rw [hz]; omega), show ((kk : Int) + 1).toNat = kk + 1 by omega, txx _ _ _ (Nat.le_refl _), bl_tx, tx_size, List.take_length]
      have e3 : ∀ w, (Instr.slice 9 (.string (tx TT)) (some (.int .i64 ((kk : Int)))) none none).run Tryz.prog w = .ok (.string (tx (TT.drop kk))) w := fun w => by
        rw [run_slice_string_l w _ _ Tryz.underlying9 .i64 ((kk : Int)) (by omega) (by rw [hz]; omega), show ((kk : Int)).toNat = kk by omega, txx _ _ _ (Nat.le_refl _), bl_tx, tx_size, List.take_length]
      have hl1 : (TT.take kk).length = kk := by rw [List.length_take]; omega
      have hl2 : (TT.drop (kk + 1)).length = m - (kk + 1) := by rw [List.length_drop, hzl]
      have hl3 : (TT.drop kk).length = m - kk := by rw [List.length_drop, hzl]
      generalize TT.take kk = X1 at *
      generalize TT.drop (kk + 1) = X2 at *
      generalize TT.drop kk = X3 at *
      have hcv : (convert 39 9 (.slice (some ⟨wc.heap.size, 0, none⟩) 1 1)).run Tryz.prog (wc.alloc (.cells #[.int .u8 (c.toNat : Int)] 5)).drew = .ok (.string (tx [c])) (wc.alloc (.cells #[.int .u8 (c.toNat : Int)] 5)).drew := byte_text wc _ _ c (by simp)
      have a1 : ∀ w, (Op.stringOp .add (tx X1) (tx [c])).run Tryz.prog w = .ok (.string (tx (X1 ++ [c]))) w := fun w => tx_cat _ _ _ w (by simp; omega)
      have a2 : ∀ w, (Op.stringOp .add (tx (X1 ++ [c])) (tx X2)).run Tryz.prog w = .ok (.string (tx (X1 ++ [c] ++ X2))) w := fun w => tx_cat _ _ _ w (by simp; omega)
      have a3 : ∀ w, (Op.stringOp .add (tx X1) (tx X2)).run Tryz.prog w = .ok (.string (tx (X1 ++ X2))) w := fun w => tx_cat _ _ _ w (by omega)
      have a4 : ∀ w, (Op.stringOp .add (tx (X1 ++ [c])) (tx X3)).run Tryz.prog w = .ok (.string (tx (X1 ++ [c] ++ X3))) w := fun w => tx_cat _ _ _ w (by simp; omega)
      rcases hr with rfl | rfl | rfl
      · go_upto_region 12 with fail
        clear e3 a3 a4 hl3
        go_region
        have hq := Lib.hid (show Below wc.heap.size wc (wc.alloc (.cells #[.int .u8 (c.toNat : Int)] 5)).drew from below_drewN (alloc_at wc _) 1)
        generalize (wc.alloc (.cells #[.int .u8 (c.toNat : Int)] 5)).drew = wq at *
        go_wp2_with fail
        go_meet
        case rel => exact ⟨X1 ++ c :: X2, rfl, by simp; omega, hq⟩
      · go_upto_region 14 with fail
        clear e3 a1 a2 a4 hl3 hcv
        go_quiet (fail)
        rename_i nq
        have hq := Lib.hid (below_drewN (Below.refl wc.heap.size wc) nq)
        generalize wc.drewN nq = wq at *
        go_wp2_with fail
        go_meet
        case rel => exact ⟨_, rfl, by simp; omega, hq⟩
      · go_upto_region 16 with fail
        clear e2 a2 a3 hl2
        go_region
        have hq := Lib.hid (show Below wc.heap.size wc (wc.alloc (.cells #[.int .u8 (c.toNat : Int)] 5)).drew from below_drewN (alloc_at wc _) 1)
        generalize (wc.alloc (.cells #[.int .u8 (c.toNat : Int)] 5)).drew = wq at *
        go_wp2_with fail
        go_meet
        case rel => exact ⟨X1 ++ c :: X3, rfl, by simp; omega, hq⟩
    case rest =>
      obtain ⟨T2, rfl, hT2, hB9⟩ := hcut
      have A9 := Lib.hid (A8.out.below hB9.out)
      have O9 := Lib.hid (O8.out.keep hB9.out)
      have E9 := Lib.hid (E8.out.keep hB9.out)
      have B9 := Lib.hid (trans_b B8.out hB9.out)
      have x9 := O9.out.2
      have cX := Lib.hid (cP.out _ T2 (by omega) wc E9.out A9.out)
      have cY := Lib.hid (fun us W hA => cR.out us T2 (by omega) W hA)
      clear hB9 x8 A8 O8 E8 B8 cP cR hr hz hkn hT1 hT3 hT2
      go_wp2_with fail
      refine cX.out.mono ?_; rintro e Wa ⟨pa, qa, Fa, ra, rfl, hPa, hIa, hla, hBa⟩
      have Aa := Lib.hid (A9.out.below hBa)
      have Oa := Lib.hid (O9.out.keep hBa)
      have Ea := Lib.hid (E9.out.keep hBa)
      have Ba := Lib.hid (trans_b B9.out hBa)
      have Ia := Lib.hid hIa
      have Pa := Lib.hid hPa
      have xa := Oa.out.2
      have cZ := Lib.hid (cY.out _ Wa Aa.out)
      clear hBa hIa hPa x9 cX cY A9 O9 E9 B9
      go_wp2_with fail
      refine cZ.out.mono ?_; rintro e Wb ⟨pb, qb, Fb, rb, rfl, hPb, hIb, hlb, hBb⟩
      obtain ⟨hFF, hrr⟩ := pstat_one Pa.out hPb
      subst hFF
      subst hrr
      have Bb := Lib.hid (trans_b Ba.out hBb)
      have Eb := Lib.hid (Ea.out.keep hBb)
      have Ib := Lib.hid (Ia.out.below hBb)
      have Jb := Lib.hid hIb
      have cS := Lib.hid (by have := sints_any _ _ Fa Fa Wb Ib.out Jb.out (by omega) (by omega); rw [decide_eq_true (rfl : Fa = Fa)] at this; exact this)
      clear hBb hIb hPb xa cZ Aa Oa Ea Ba Ia Pa hlb
      have u1 : (ra == ra) = true := by simp
      go_wp2_with fail
      refine cS.out.mono ?_; rintro e Wc ⟨rfl, hDc⟩
      have Bc := Lib.hid (below_dr Bb.out hDc)
      have Ec := Lib.hid (show EnvS Wc from by obtain ⟨nd, rfl⟩ := hDc; exact Eb.out.drewN nd)
      clear hDc cS Ib Jb Eb Bb hla
      go_wp2_with fail
      refine (awake_of _ Ec.out).mono ?_; rintro e Wd ⟨rfl, hBd⟩
      have Bd := Lib.hid (trans_b Bc.out hBd)
      clear hBd
      go_wp2_with fail
      go_ret
      exact ⟨rfl, Bd.out⟩
set_option maxHeartbeats 1000000 in
theorem parse_walk (s : ByteArray) (k : Int) (vd : Value) (l : List Int) (a b h : Int) (w : World) (hE : EnvS w) (hs : s.size ≤ maxLen) (hk : (Lit.int .i64 k).wf = true) (hD : IntsAt w vd l) (hld : l.length ≤ 9223372036854775807) (hwd : ∀ x ∈ l, (Lit.int .i64 x).wf = true)
    (ha : (Lit.int .i64 a).wf = true) (hb : (Lit.int .u8 b).wf = true) (hh : (Lit.int .u8 h).wf = true) :
    Calls Tryz.prog 4 #[.string s, .int .i64 k, vd, .int .i64 a, .int .u8 b, .int .u8 h] w (BoolBe true w) := by
  obtain ⟨hb1, hb2⟩ := Go.bounds_u8 hb
  obtain ⟨c, rfl⟩ := byte_of b hb1 hb2
  by_cases h300 : 300 < s.size
  · exact parse_skip s k vd a _ h w hE h300
  · exact parse_main s k vd l a c h w hE (by omega) (Go.bounds_i64 hk) hD hld (fun x hx => Go.bounds_i64 (hwd x hx)) (Go.bounds_i64 ha) (Go.bounds_u8 hh)
end Go.Proofs.YtdehldcgakdobaaGreatDoor.Sc
