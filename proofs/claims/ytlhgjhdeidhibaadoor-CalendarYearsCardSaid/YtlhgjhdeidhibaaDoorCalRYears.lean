/- Years of the reference. -/
import Derived.Test.YtlhgjhdeidhibaaDoorCalYears
namespace Go.Proofs.YtlhgjhdeidhibaaDoor.Cal
open Go.RowKit Go.Lib Go.Proofs.YtlhgjhdeidhibaaDoor.Bas
set_option linter.unusedVariables false

theorem step_ref (f t : Int) (k : Nat) : (addB f (12 * ((k + 1 : Nat) : Int)) = true ∧ addH f (12 * ((k + 1 : Nat) : Int)) < t ∧ bd f t (k + 1) = addH f (12 * ((k + 1 : Nat) : Int))) ∨ (addB f (12 * ((k + 1 : Nat) : Int)) = false ∧ bd f t (k + 1) = t) ∨
    (addB f (12 * ((k + 1 : Nat) : Int)) = true ∧ t ≤ addH f (12 * ((k + 1 : Nat) : Int)) ∧ bd f t (k + 1) = t) := by
  unfold bd
  cases hb : addB f (12 * ((k + 1 : Nat) : Int))
  · exact Or.inr (Or.inl ⟨rfl, by rw [if_neg (by simp)]⟩)
  · by_cases h : addH f (12 * ((k + 1 : Nat) : Int)) < t
    · exact Or.inl ⟨rfl, h, by rw [if_pos ⟨rfl, h⟩]⟩
    · exact Or.inr (Or.inr ⟨rfl, by omega, by rw [if_neg (fun e => h e.2)]⟩)

theorem ryears_no (f t : Int) (w : World) (hv : pvB f t = false) : Calls Tryd.prog 40 #[.agg #[.int .i64 f, .int .i64 t]] w (YrOut [] 12 w) := by
  have c := Lib.hid (fun w => rvalid_any f t w _ hv)
  have b0 := Lib.hid (alloc1 w (.cells #[.int .i64 f, .int .i64 t] 46))
  clear hv
  go_enter Tryd.func40, Tryd.ntmps40
  go_wp2_with fail
  refine (c.out _).mono ?_; rintro e W1 ⟨rfl, hB⟩
  have b1 := Lib.hid (trans_at b0.out hB)
  have hfin := Lib.hid (YrOut.none 12 w W1 b1.out)
  clear hB b0
  go_wp2_with fail
  go_ret2
  exact hfin.out

set_option maxHeartbeats 8000000 in
theorem ryears_yes (f t : Int) (K : Nat) (w : World) (h0 : 0 ≤ f) (h1 : f < t) (h2 : t ≤ 876600) (hK0 : 0 < K) (hK : bd f t K = t) (hKl : ∀ k, k < K → bd f t k < t) (hK100 : K ≤ 100) :
    Calls Tryd.prog 40 #[.agg #[.int .i64 f, .int .i64 t]] w (YrOut (yl f t K) 0 w) := by
  have c := Lib.hid (fun w => rvalid_any f t w true ((pvB_iff f t).2 ⟨h0, h1, h2⟩))
  have ca := Lib.hid (fun (k : Nat) (hk : k ≤ 100) w => radd_any f (12 * ((k + 1 : Nat) : Int)) w (by omega) (by omega))
  have b0 := Lib.hid (alloc1 w (.cells #[.int .i64 f, .int .i64 t] 46))
  have D0 := Lib.hid (TwoAt.new w f t)
  have hK' := Lib.hid hK
  have hKl' := Lib.hid hKl
  have z0 := Lib.hid (bd_zero f t h0 h1 h2)
  clear hK hKl
  go_enter Tryd.func40, Tryd.ntmps40
  go_wp2_with fail
  refine (c.out _).mono ?_; rintro e W1 ⟨rfl, hB⟩
  have b1 := Lib.hid (trans_at b0.out hB)
  have D1 := Lib.hid (D0.out.keep hB)
  clear hB b0 D0
  generalize hp : w.heap.size = p1 at D1 ⊢
  have hp' := Lib.hid hp
  clear hp
  obtain ⟨-, k0, k1, -⟩ := D1.out
  go_wp2_with fail
  go_loopw [4, 5, 6] (fun v5 x5 n5 wr => ∃ k : Nat, k < K ∧ x5 = .int .i64 (bd f t k) ∧ n5 = .int .i64 (12 * ((k + 1 : Nat) : Int)) ∧ Hid (PRow (p1 + 1) wr v5 (yl f t k)) ∧ Hid (Below w.heap.size w wr) ∧ Hid (TwoAt wr p1 f t)) (fun _ x _ _ => (t - intOf x).toNat)
  case atStart => exact ⟨0, hK0, by rw [z0.out], rfl, Lib.hid (prow_nil _ _), b1, D1⟩
  case round =>
    obtain ⟨k, hk, rfl, rfl, hR, hBw, hD⟩ := hrel
    clear k0 k1
    obtain ⟨-, k0, k1, -⟩ := hD.out
    have hge := bd_ge f t k h0 h1 h2
    have hle := bd_le f t k
    have hk100 : k ≤ 100 := by omega
    have hbk := hKl'.out k hk
    have hbl2 := bd_lt f t k hbk
    have ca1 := Lib.hid (ca.out k hk100)
    have hs := step_ref f t k
    have hyl0 := yl_succ f t k
    have hend : bd f t (k + 1) = t → Hid (k + 1 = K) := fun e => Lib.hid (by
      by_cases g : k + 1 < K
      · have := hKl'.out (k + 1) g; omega
      · omega)
    have hgo : bd f t (k + 1) < t → k + 1 < K := fun e => by
      by_cases g : k + 1 < K
      · exact g
      · obtain rfl : k + 1 = K := by omega
        have := hK'.out; omega
    unfold addV at ca1
    generalize addB f (12 * ((k + 1 : Nat) : Int)) = aB at *
    generalize addH f (12 * ((k + 1 : Nat) : Int)) = N at *
    have hn12 : (12 * ((k + 1 : Nat) : Int)) + 12 = 12 * ((k + 1 + 1 : Nat) : Int) := by omega
    have hn12' := Lib.hid hn12
    have hm1 : 0 ≤ 12 * ((k + 1 : Nat) : Int) := by omega
    have hm2 : 12 * ((k + 1 : Nat) : Int) ≤ 1200 := by omega
    clear hn12
    generalize 12 * ((k + 1 : Nat) : Int) = M at *
    generalize hX0 : bd f t (k + 1) = X at *
    have hX := Lib.hid hX0
    have hyl := Lib.hid hyl0
    clear hX0 hyl0
    generalize bd f t k = x at *
    have hlen := Lib.hid (yl_length f t k)
    rcases hs with ⟨rfl, hlt2, hXe⟩ | ⟨rfl, hXe⟩ | ⟨rfl, hgt, hXe⟩
    · have ca2 : Hid (∀ w, Calls Tryd.prog 25 #[.int .i64 f, .int .i64 M] w (NumOut N 0 w)) := ca1
      clear ca1 ca
      have hkn := hgo (by omega)
      have hN : Hid (X = N) := Lib.hid hXe
      have hxN : x < N := by omega
      rw [hXe] at hyl
      clear hXe hgo hend hbl2
      go_wp2_with fail
      refine (ca2.out _).mono ?_; rintro e W2 ⟨rfl, hB⟩
      have b2 := Lib.hid (trans_at hBw.out hB)
      have D2 := Lib.hid (hD.out.keep hB)
      have R2 := Lib.hid (hR.out.keep hB)
      clear hB k0 k1 hBw hD hR ca2
      obtain ⟨-, k0, k1, -⟩ := D2.out
      have hsz := Lib.hid D2.out.1
      go_wp2_with (at_builtin; refine wpList_append_per rfl (.tmp 38) (.tmp 42) rfl (p1 + 1) u4 (yl f t k) rfl R2.out x N rfl (by rw [hlen.out]; omega) hsz.out ?_; intro v' W3 hown hgrow)
      rw [← hyl.out] at hown
      have hrow := fun g hg => (World.ownsRow.lt R2.out g hg).1
      have D3 := Lib.hid (D2.out.grown hgrow (fun g hg => hrow g hg))
      have b3 := Lib.hid (b2.out.grown hgrow b2.out.size (fun g hg => by have := hrow g hg; have := hp'.out; omega))
      have R3 := Lib.hid hown
      clear hown hgrow hrow
      go_roundw
      case rel => exact ⟨k + 1, hkn, by rw [hX.out, hN.out], by rw [hn12'.out], R3, b3, D3⟩
      case measure => simp [intOf]; omega
    · have ca2 : Hid (∀ w, Calls Tryd.prog 25 #[.int .i64 f, .int .i64 M] w (NumOut 0 1 w)) := ca1
      clear ca1 ca
      have hke := hend hXe
      rw [hXe] at hyl
      clear hXe hgo hend hbl2
      go_wp2_with fail
      refine (ca2.out _).mono ?_; rintro e W2 ⟨rfl, hB⟩
      have b2 := Lib.hid (trans_at hBw.out hB)
      have D2 := Lib.hid (hD.out.keep hB)
      have R2 := Lib.hid (hR.out.keep hB)
      clear hB k0 k1 hBw hD hR ca2
      obtain ⟨-, k0, k1, -⟩ := D2.out
      have hsz := Lib.hid D2.out.1
      go_wp2_with (at_builtin; refine wpList_append_per rfl (.tmp 31) (.tmp 36) rfl (p1 + 1) u4 (yl f t k) rfl R2.out x t rfl (by rw [hlen.out]; omega) hsz.out ?_; intro v' W3 hown hgrow)
      rw [← hyl.out] at hown
      have hrow := fun g hg => (World.ownsRow.lt R2.out g hg).1
      have D3 := Lib.hid (D2.out.grown hgrow (fun g hg => hrow g hg))
      have b3 := Lib.hid (b2.out.grown hgrow b2.out.size (fun g hg => by have := hrow g hg; have := hp'.out; omega))
      have R3 := Lib.hid hown
      clear hown hgrow hrow
      have hfin : YrOut (yl f t K) 0 w (.returned (.tuple #[v', .int .i64 0])) W3 := ⟨_, rfl, by rw [← hke.out]; exact R3.out.mono (by have := hp'.out; omega), b3.out⟩
      have hfin' := Lib.hid hfin
      clear hfin
      go_wp2_with fail
      go_ret2
      exact hfin'.out
    · have ca2 : Hid (∀ w, Calls Tryd.prog 25 #[.int .i64 f, .int .i64 M] w (NumOut N 0 w)) := ca1
      clear ca1 ca
      have hke := hend hXe
      rw [hXe] at hyl
      clear hXe hgo hend hbl2
      go_wp2_with fail
      refine (ca2.out _).mono ?_; rintro e W2 ⟨rfl, hB⟩
      have b2 := Lib.hid (trans_at hBw.out hB)
      have D2 := Lib.hid (hD.out.keep hB)
      have R2 := Lib.hid (hR.out.keep hB)
      clear hB k0 k1 hBw hD hR ca2
      obtain ⟨-, k0, k1, -⟩ := D2.out
      have hsz := Lib.hid D2.out.1
      go_wp2_with (at_builtin; refine wpList_append_per rfl (.tmp 31) (.tmp 36) rfl (p1 + 1) u4 (yl f t k) rfl R2.out x t rfl (by rw [hlen.out]; omega) hsz.out ?_; intro v' W3 hown hgrow)
      rw [← hyl.out] at hown
      have hrow := fun g hg => (World.ownsRow.lt R2.out g hg).1
      have D3 := Lib.hid (D2.out.grown hgrow (fun g hg => hrow g hg))
      have b3 := Lib.hid (b2.out.grown hgrow b2.out.size (fun g hg => by have := hrow g hg; have := hp'.out; omega))
      have R3 := Lib.hid hown
      clear hown hgrow hrow
      have hfin : YrOut (yl f t K) 0 w (.returned (.tuple #[v', .int .i64 0])) W3 := ⟨_, rfl, by rw [← hke.out]; exact R3.out.mono (by have := hp'.out; omega), b3.out⟩
      have hfin' := Lib.hid hfin
      clear hfin
      go_wp2_with fail
      go_ret2
      exact hfin'.out
end Go.Proofs.YtlhgjhdeidhibaaDoor.Cal
