/- Years of package calendar. -/
import Derived.Test.YtlhgjhdeidhibaaDoorCalYMath
namespace Go.Proofs.YtlhgjhdeidhibaaDoor.Cal
open Go.RowKit Go.Lib Go.Proofs.YtlhgjhdeidhibaaDoor.Bas
set_option linter.unusedVariables false

/-- A new row of periods and an error. -/
def YrOut (L : List (Int × Int)) (r : Int) (w : World) (e : Ending) (w' : World) : Prop := ∃ u, e = .returned (.tuple #[u, .int .i64 r]) ∧ PRow w.heap.size w' u L ∧ Below w.heap.size w w'
theorem YrOut.none (r : Int) (w w' : World) (h : Below w.heap.size w w') : YrOut [] r w (.returned (.tuple #[.slice none 0 0, .int .i64 r])) w' := ⟨_, rfl, prow_nil _ _, h⟩
theorem grown_below {B : Nat} {a w w' : World} {v : Value} {L : List (Int × Int)} (h : Below B a w) (hr : PRow B w v L) (hg : w.grownBy w' v.ownBlock) (hB : B ≤ w.heap.size) : Below B a w' :=
  h.grown hg hB fun k hk => (World.ownsRow.lt hr k hk).1

theorem years_no (f t : Int) (w : World) (hv : pvB f t = false) : Calls Tryd.prog 39 #[.agg #[.int .i64 f, .int .i64 t]] w (YrOut [] 12 w) := by
  have c := Lib.hid (fun w => valid_any f t w _ hv)
  have b0 := Lib.hid (alloc1 w (.cells #[.int .i64 f, .int .i64 t] 46))
  clear hv
  go_enter Tryd.func39, Tryd.ntmps39
  go_wp2_with fail
  refine (c.out _).mono ?_; rintro e W1 ⟨rfl, hB⟩
  have b1 := Lib.hid (trans_at b0.out hB)
  have hfin := Lib.hid (YrOut.none 12 w W1 b1.out)
  clear hB b0
  go_wp2_with fail
  go_ret2
  exact hfin.out

set_option maxHeartbeats 8000000 in
theorem years_yes (f t : Int) (K : Nat) (w : World) (hT : Tab w) (h0 : 0 ≤ f) (h1 : f < t) (h2 : t ≤ 876600) (hK : bd f t K = t) (hKl : ∀ k, k < K → bd f t k < t) (hK100 : K ≤ 100) :
    Calls Tryd.prog 39 #[.agg #[.int .i64 f, .int .i64 t]] w (YrOut (yl f t K) 0 w) := by
  have c := Lib.hid (fun w => valid_any f t w true ((pvB_iff f t).2 ⟨h0, h1, h2⟩))
  have ca := Lib.hid (fun (k : Nat) (hk : k ≤ 100) w hT => add_any f (((k : Int) + 1) * 12) w hT (by omega) (by omega))
  have hT' := Lib.hid hT
  have b0 := Lib.hid (alloc1 w (.cells #[.int .i64 f, .int .i64 t] 46))
  have D0 := Lib.hid (TwoAt.new w f t)
  have hK' := Lib.hid hK
  have hKl' := Lib.hid hKl
  have z0 := Lib.hid (bd_zero f t h0 h1 h2)
  clear hT hK hKl
  go_enter Tryd.func39, Tryd.ntmps39
  go_wp2_with fail
  refine (c.out _).mono ?_; rintro e W1 ⟨rfl, hB⟩
  have b1 := Lib.hid (trans_at b0.out hB)
  have D1 := Lib.hid (D0.out.keep hB)
  clear hB b0 D0
  generalize hp : w.heap.size = p1 at D1 ⊢
  have hp' := Lib.hid hp
  clear hp
  obtain ⟨-, k0, k1, -⟩ := D1.out
  go_wp2_with fail
  go_loopw [4, 5] (fun v5 x5 wr => ∃ k : Nat, k ≤ K ∧ x5 = .int .i64 (bd f t k) ∧ Hid (PRow (p1 + 1) wr v5 (yl f t k)) ∧ Hid (Below w.heap.size w wr) ∧ Hid (TwoAt wr p1 f t)) (fun _ x _ => (t - intOf x).toNat)
  case atStart => exact ⟨0, Nat.zero_le _, by rw [z0.out], Lib.hid (prow_nil _ _), b1, D1⟩
  case round =>
    obtain ⟨k, hk, rfl, hR, hBw, hD⟩ := hrel
    clear k0 k1
    obtain ⟨-, k0, k1, -⟩ := hD.out
    have hge := bd_ge f t k h0 h1 h2
    have hle := bd_le f t k
    obtain ⟨q, cc, hv4, -⟩ := hR.out.shape
    rw [yl_length] at hv4
    subst hv4
    have hk100 : k ≤ 100 := by omega
    have hbl := Lib.hid (bd_lt f t k)
    by_cases hlt : k < K
    · have hbk := hKl'.out k hlt
      have ca1 := Lib.hid (ca.out k hk100)
      have hbl2 := hbl.out hbk
      have e12 : ((k : Int) + 1) * 12 = 12 * ((k + 1 : Nat) : Int) := by omega
      rw [e12] at ca1
      have hs := step_next f t k
      have hyl0 := yl_succ f t k
      unfold addV at ca1
      generalize addB f (12 * ((k + 1 : Nat) : Int)) = aB at *
      generalize addH f (12 * ((k + 1 : Nat) : Int)) = N at *
      generalize hX0 : bd f t (k + 1) = X at *
      have hX := Lib.hid hX0
      have hyl := Lib.hid hyl0
      clear hX0 hyl0 hbl
      generalize bd f t k = x at *
      rcases hs with ⟨rfl, hle2, hXe⟩ | ⟨rfl, hXe⟩ | ⟨rfl, hgt, hXe⟩
      · have ca2 : Hid (∀ w, Tab w → Calls Tryd.prog 24 #[.int .i64 f, .int .i64 (((k : Int) + 1) * 12)] w (NumOut X 0 w)) := Lib.hid (by rw [e12, hXe]; exact ca1.out)
        have hle3 : X ≤ t := by omega
        clear ca1 ca e12 hXe hle2
        go_wp2_with fail
        refine (ca2.out _ (hT'.out.keep hBw.out)).mono ?_; rintro e W2 ⟨rfl, hB⟩
        have b2 := Lib.hid (trans_at hBw.out hB)
        have D2 := Lib.hid (hD.out.keep hB)
        have R2 := Lib.hid (hR.out.keep hB)
        clear hB k0 k1 hBw hD hR ca2
        obtain ⟨-, k0, k1, -⟩ := D2.out
        have hsz := Lib.hid D2.out.1
        have hlen := Lib.hid (yl_length f t k)
        go_wp2_with (at_builtin; refine wpList_append_per rfl (.tmp 37) (.tmp 41) rfl (p1 + 1) (.slice q k cc) (yl f t k) rfl R2.out x X rfl (by rw [hlen.out]; omega) hsz.out ?_; intro v' W3 hown hgrow)
        rw [← hyl.out] at hown
        have hrow := fun g hg => (World.ownsRow.lt R2.out g hg).1
        have D3 := Lib.hid (D2.out.grown hgrow (fun g hg => hrow g hg))
        have b3 := Lib.hid (b2.out.grown hgrow b2.out.size (fun g hg => by have := hrow g hg; have := hp'.out; omega))
        have R3 := Lib.hid hown
        clear hown hgrow hrow
        go_roundw
        case rel => exact ⟨k + 1, by omega, by rw [hX.out], R3, b3, D3⟩
        case measure => simp [intOf]; omega
      · have ca2 : Hid (∀ w, Tab w → Calls Tryd.prog 24 #[.int .i64 f, .int .i64 (((k : Int) + 1) * 12)] w (NumOut 0 1 w)) := Lib.hid (by rw [e12]; exact ca1.out)
        clear ca1 ca e12
        have hXe2 := hXe.symm
        clear hXe
        subst hXe2
        go_wp2_with fail
        refine (ca2.out _ (hT'.out.keep hBw.out)).mono ?_; rintro e W2 ⟨rfl, hB⟩
        have b2 := Lib.hid (trans_at hBw.out hB)
        have D2 := Lib.hid (hD.out.keep hB)
        have R2 := Lib.hid (hR.out.keep hB)
        clear hB k0 k1 hBw hD hR ca2
        obtain ⟨-, k0, k1, -⟩ := D2.out
        have hsz := Lib.hid D2.out.1
        have hlen := Lib.hid (yl_length f t k)
        go_wp2_with (at_builtin; refine wpList_append_per rfl (.tmp 37) (.tmp 41) rfl (p1 + 1) (.slice q k cc) (yl f t k) rfl R2.out x t rfl (by rw [hlen.out]; omega) hsz.out ?_; intro v' W3 hown hgrow)
        rw [← hyl.out] at hown
        have hrow := fun g hg => (World.ownsRow.lt R2.out g hg).1
        have D3 := Lib.hid (D2.out.grown hgrow (fun g hg => hrow g hg))
        have b3 := Lib.hid (b2.out.grown hgrow b2.out.size (fun g hg => by have := hrow g hg; have := hp'.out; omega))
        have R3 := Lib.hid hown
        clear hown hgrow hrow
        go_roundw
        case rel => exact ⟨k + 1, by omega, by rw [hX.out], R3, b3, D3⟩
        case measure => simp [intOf]; omega
      · have ca2 : Hid (∀ w, Tab w → Calls Tryd.prog 24 #[.int .i64 f, .int .i64 (((k : Int) + 1) * 12)] w (NumOut N 0 w)) := Lib.hid (by rw [e12]; exact ca1.out)
        clear ca1 ca e12
        have hXe2 := hXe.symm
        clear hXe
        subst hXe2
        go_wp2_with fail
        refine (ca2.out _ (hT'.out.keep hBw.out)).mono ?_; rintro e W2 ⟨rfl, hB⟩
        have b2 := Lib.hid (trans_at hBw.out hB)
        have D2 := Lib.hid (hD.out.keep hB)
        have R2 := Lib.hid (hR.out.keep hB)
        clear hB k0 k1 hBw hD hR ca2
        obtain ⟨-, k0, k1, -⟩ := D2.out
        have hsz := Lib.hid D2.out.1
        have hlen := Lib.hid (yl_length f t k)
        go_wp2_with (at_builtin; refine wpList_append_per rfl (.tmp 37) (.tmp 41) rfl (p1 + 1) (.slice q k cc) (yl f t k) rfl R2.out x t rfl (by rw [hlen.out]; omega) hsz.out ?_; intro v' W3 hown hgrow)
        rw [← hyl.out] at hown
        have hrow := fun g hg => (World.ownsRow.lt R2.out g hg).1
        have D3 := Lib.hid (D2.out.grown hgrow (fun g hg => hrow g hg))
        have b3 := Lib.hid (b2.out.grown hgrow b2.out.size (fun g hg => by have := hrow g hg; have := hp'.out; omega))
        have R3 := Lib.hid hown
        clear hown hgrow hrow
        go_roundw
        case rel => exact ⟨k + 1, by omega, by rw [hX.out], R3, b3, D3⟩
        case measure => simp [intOf]; omega
    · obtain rfl : k = K := by omega
      have hfin : YrOut (yl f t k) 0 w (.returned (.tuple #[.slice q k cc, .int .i64 0])) wr := ⟨_, rfl, hR.out.mono (by have := hp'.out; omega), hBw.out⟩
      have hfin' := Lib.hid hfin
      rw [hK'.out]
      clear hfin hlt hge hle hbl
      go_wp2_with fail
      go_ret2
      exact hfin'.out
end Go.Proofs.YtlhgjhdeidhibaaDoor.Cal
