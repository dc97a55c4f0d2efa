/- SchemaBack's walk. -/
import Derived.Test.YtdehldcgakdobaaGreatDoorScEnd
import Derived.Test.YtdehldcgakdobaaGreatDoorScPParse
import Derived.Test.YtdehldcgakdobaaGreatDoorScSame
import Derived.Test.YtdehldcgakdobaaGreatDoorScDeck
namespace Go.Proofs.YtdehldcgakdobaaGreatDoor.Sc
open Go.RowKit Go.Lib Go.Proofs.YtdehldcgakdobaaGreatDoor.Bas Go.Proofs.YtdehldcgakdobaaGreatDoor.Cal Go.Proofs.YtdehldcgakdobaaGreatDoor.Lx Go.Proofs.YtdehldcgakdobaaGreatDoor.Dk
set_option linter.unusedVariables false

set_option maxRecDepth 8000 in
set_option maxHeartbeats 16000000 in
theorem back_walk (k : Int) (vd : Value) (l : List Int) (w : World) (hE : EnvS w) (hk0 : (Lit.int .i64 k).wf = true) (hD : IntsAt w vd l) (hld : l.length ≤ 9223372036854775807) (hwd0 : ∀ x ∈ l, (Lit.int .i64 x).wf = true) :
    Calls Tryz.prog 3 #[.int .i64 k, vd] w (BoolBe true w) := by
  have hk := Go.bounds_i64 hk0
  have hwd : ∀ x ∈ l, -9223372036854775808 ≤ x ∧ x ≤ 9223372036854775807 := fun x hx => Go.bounds_i64 (hwd0 x hx)
  have cNew := Lib.hid (fun W (hb : Below w.heap.size w W) => new_any vd l W (hD.below hb) hld hwd)
  have cK := Lib.hid (fun w => made_any k w hk.1 hk.2)
  have hkb := wi_bd k 6 (by omega)
  have hmo := Lib.hid (made_ok (wi k 6) (by omega))
  have hE' := Lib.hid hE
  obtain ⟨pd, cd, rfl, _⟩ := hD
  generalize madeS (wi k 6) = M at *
  generalize wi k 6 = kx at *
  clear hE hwd hld hk hkb hk0 hwd0
  go_enter Tryz.func3, Tryz.ntmps3
  go_wp2_with fail
  refine (cK.out w).mono ?_; rintro e W3 ⟨us, rfl, hAs, hB3⟩
  have B3 := Lib.hid hB3
  have E3 := Lib.hid (hE'.out.keep hB3)
  have As := Lib.hid hAs
  obtain ⟨ps, cs, rfl, _, _⟩ := hAs
  clear hB3 hE' cK
  go_upto_region 2 with fail
  have O4 := Lib.hid (OAt.new W3 (.slice ps M.length cs) 25)
  have hal := alloc_at W3 (.cells #[.slice ps M.length cs] 25)
  have A4 := Lib.hid (As.out.below hal)
  have B4 := Lib.hid (trans_b B3.out hal)
  have E4 := Lib.hid (E3.out.keep hal)
  obtain ⟨b5, hb5⟩ : ∃ b, W3.heap.size = b := ⟨_, rfl⟩
  rw [hb5] at O4 ⊢
  clear hb5 hal As E3 B3
  generalize W3.alloc (.cells #[.slice ps M.length cs] 25) = W4 at *
  have x4 := O4.out.2
  go_cut [6] (fun x6 wx => ∃ F : List Int, F.length = M.length ∧ Hid (∀ j, j < M.length → InD (at' M j) (F.getD j 0)) ∧ Hid (Below W4.heap.size W4 wx) ∧ Hid (Row 3 .i64 W4.heap.size wx x6 F))
  case first =>
    go_region_with (first | (refine (cNew.out _ (below_drewN B4.out 1)).mono ?_; rintro e w' ⟨d, rfl, hDx, hBx⟩; have x5 := (OAt.keep (w := W4) O4.out (trans_b (below_drewN (Below.refl _ _) 1) hBx)).2) | (refine (dfacts_any _ _ _ l W4 _ (.slice ps M.length cs) M A4.out (trans_b (below_drewN (Below.refl _ _) 1) hBx) (hDx.ge) hmo.out.1 hmo.out.2 hDx).mono ?_; rintro e w' ⟨uF, F, rfl, hF1, hF2, hRF, hDF, hKF⟩))
    all_goals
      have hs1 := hBx.size
      have hBz := (trans_b (below_drewN (Below.refl W4.heap.size W4) 1) hBx).trans (hKF.below (B := W4.heap.size) hDx.ge hs1)
      have hRz := hRF.mono (B' := W4.heap.size) hs1
      have hBz' := Lib.hid hBz
      have hRz' := Lib.hid hRz
      have hF2' := Lib.hid hF2
      clear hBz hRz hs1 hBx hKF hDx hRF hDF hF2
      go_wp2_with fail
      go_meet
      case rel => exact ⟨F, hF1, hF2', hBz', hRz'⟩
  case rest =>
    obtain ⟨F, hF, hIn, hB5, hR5⟩ := hcut
    have hM := (schE_ok M hmo.out.1)
    have hM1 := hM.1
    have hM6 := hM.2.1
    have hFB := Lib.hid (show factsB M F = true from decide_eq_true ⟨hmo.out.1, hF, fun i hi => hIn.out i hi⟩)
    have A5 := Lib.hid (A4.out.below hB5.out)
    have O5 := Lib.hid (O4.out.keep hB5.out)
    have E5 := Lib.hid (E4.out.keep hB5.out)
    have B5 := Lib.hid (trans_b B4.out hB5.out)
    have R5 := Lib.hid (hR5.out.mono (B' := 0) (Nat.zero_le _))
    have hfl := Lib.hid (fmtP_len M F hFB.out M.length (Nat.le_refl _))
    have hsol := Lib.hid (show Sol M (fmtP M F M.length) F from ⟨hFB.out, rfl⟩)
    have c1 := Lib.hid (show Calls Tryz.prog 8 #[.agg #[.slice ps M.length cs], u6] wc (TextBe (fmtP M F M.length, 0) wc) from by
      have := fmt_of (.slice ps M.length cs) wc M u6 F E5.out A5.out (by omega) hmo.out.2 R5.out.ints (by omega)
      rw [show fmtF M F = (fmtP M F M.length, 0) by unfold fmtF; rw [if_neg (by rw [hmo.out.1]; simp), if_neg (by rw [hFB.out]; simp)]] at this
      exact this)
    have c2 := Lib.hid (fun W (hE : EnvS W) hA => pparse_any (.slice ps M.length cs) M (fmtP M F M.length) W hE hA hmo.out.2 hmo.out.1 (by have := hfl.out; omega))
    have hFl := Lib.hid (show F.length ≤ 9223372036854775807 from by omega)
    have x5 := O5.out.2
    clear hM hF hIn hB5 hR5 A4 O4 E4 B4 x4 hFB hM1 hM6 cNew hfl
    generalize fmtP M F M.length = T at *
    generalize M.length = mn at *
    obtain ⟨p6, c6, hu6, _⟩ := R5.out.shape
    subst hu6
    go_wp2_with fail
    refine c1.out.mono ?_; rintro e W6 ⟨rfl, hB6⟩
    have A6 := Lib.hid (A5.out.below hB6)
    have O6 := Lib.hid (O5.out.keep hB6)
    have E6 := Lib.hid (E5.out.keep hB6)
    have B6 := Lib.hid (trans_b B5.out hB6)
    have R6 := Lib.hid (R5.out.keep hB6)
    have cX := Lib.hid (c2.out W6 E6.out A6.out)
    clear hB6 c1 c2 x5 A5 O5 E5 B5 R5
    have x6 := O6.out.2
    go_wp2_with fail
    refine cX.out.mono ?_; rintro e W7 hres
    rcases hres with ⟨ug, g, rfl, hS, hRg, hB7⟩ | ⟨rfl, hno, hB7⟩
    · obtain rfl := sol_one hS hsol.out
      have E7 := Lib.hid (E6.out.keep hB7)
      have B7 := Lib.hid (trans_b B6.out hB7)
      have R7 := Lib.hid (R6.out.keep hB7)
      have G7 := Lib.hid hRg
      obtain ⟨p7, c7, rfl, _⟩ := hRg.shape
      have c3 := Lib.hid (sints_any _ _ g g W7 R7.out.ints G7.out.ints hFl.out hFl.out)
      have hgg : decide (g = g) = true := by simp
      rw [hgg] at c3
      clear hB7 cX x6 hS A6 O6 E6 B6 R6 hRg hgg
      go_wp2_with fail
      refine c3.out.mono ?_; rintro e W8 ⟨rfl, hD8⟩
      have B8 := Lib.hid (below_dr B7.out hD8)
      have E8 := Lib.hid (show EnvS W8 from by obtain ⟨nd, rfl⟩ := hD8; exact E7.out.drewN nd)
      clear hD8 c3
      go_wp2_with fail
      refine (awake_of _ E8.out).mono ?_; rintro e W9 ⟨rfl, hB9⟩
      have B9 := Lib.hid (trans_b B8.out hB9)
      clear hB9
      go_wp2_with fail
      go_ret
      exact ⟨rfl, B9.out⟩
    · exact absurd hsol.out (hno F)
end Go.Proofs.YtdehldcgakdobaaGreatDoor.Sc
