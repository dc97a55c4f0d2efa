/- The deck: Rates. -/
import Derived.Test.YtcdfedkcefhdiaaDeckUp
import Derived.Test.YtcdfedkcefhdiaaDeckStore
import Derived.Test.YtcdfedkcefhdiaaExcRate
namespace Go.Proofs.Ytcdfedkcefhdiaa.Dk
open Go.RowKit Go.Lib Go.Proofs.Ytcdfedkcefhdiaa.Bas Go.Proofs.Ytcdfedkcefhdiaa.Spl Go.Proofs.Ytcdfedkcefhdiaa.Exc
set_option linter.unusedVariables false

theorem rrow_kept {d B : Nat} {w w' : World} {v : Value} {L : List Rt} (h : RRow B w v L) (k : Kept d w w') (hd : v.ownBlock ≠ some d) : RRow B w' v L := by
  have hlt := World.ownsRow.lt h
  obtain ⟨h1, h2⟩ := h
  refine ⟨h1, ?_⟩
  rcases h2 with h2 | ⟨g, cap, cur, hv, hg, hh, r⟩
  · exact Or.inl h2
  · refine Or.inr ⟨g, cap, cur, hv, hg, ?_, r⟩
    subst hv
    rw [k.block g (hlt g rfl).2 (fun e => hd (by rw [← e]; rfl))]; exact hh

/-- A table whose rates are in order, the last of which is before (c, f). -/
def TblTo (L : List Rt) (c f : Int) : Prop := (∀ i, i < L.length → Exc.re L i = 0) ∧ ∀ x, L.getLast? = some x → x.c < c ∨ x.c = c ∧ x.f < f
theorem tblTo_nil (c f : Int) : TblTo [] c f := ⟨fun i h => by simp at h, fun x h => by simp at h⟩
theorem tblTo_mono {L : List Rt} {c f c' f' : Int} (h : TblTo L c f) (hc : c < c' ∨ c = c' ∧ f ≤ f') : TblTo L c' f' :=
  ⟨h.1, fun x hx => by have := h.2 x hx; omega⟩
theorem re_append (L M : List Rt) (i : Nat) (h : i < L.length) : Exc.re (L ++ M) i = Exc.re L i := by
  unfold Exc.re
  rw [rt_append L M i h, rt_append L M (i - 1) (by omega)]
theorem tblTo_snoc {L : List Rt} {c f p c' f' : Int} (h : TblTo L c f) (hc : 1 ≤ c ∧ c ≤ 15) (hf : 0 ≤ f ∧ f ≤ 876599) (hp : 1 ≤ p ∧ p ≤ 1000000000) (hn : c < c' ∨ c = c' ∧ f < f') : TblTo (L ++ [⟨c, f, p⟩]) c' f' := by
  refine ⟨fun i hi => ?_, fun x hx => ?_⟩
  · by_cases e : i < L.length
    · rw [re_append L _ i e]; exact h.1 i e
    · have hil : i = L.length := by simp at hi; omega
      subst hil
      have e1 : rt (L ++ [⟨c, f, p⟩]) L.length = ⟨c, f, p⟩ := by rw [rt_at _ _ (by simp)]; simp
      unfold Exc.re
      rw [e1]
      rw [if_neg (by show ¬ (c < 1 ∨ 15 < c); omega), if_neg (by show ¬ (f < 0 ∨ 876599 < f ∨ p < 1 ∨ 1000000000 < p); omega)]
      rw [if_neg]
      rintro ⟨h0, hh⟩
      rw [rt_append L _ (L.length - 1) (by omega)] at hh
      have := h.2 (rt L (L.length - 1)) (by rw [rt_at _ _ (by omega), List.getLast?_eq_getElem?]; exact List.getElem?_eq_getElem _)
      have hh2 : c < (rt L (L.length - 1)).c ∨ (rt L (L.length - 1)).c = c ∧ f ≤ (rt L (L.length - 1)).f := hh
      omega
  · rw [List.getLast?_concat] at hx
    cases hx
    exact hn

/-- A valid table of at most nine rates. -/
def RatesOut (B d : Nat) (v : Value) (l : List Int) (w : World) (e : Ending) (w' : World) : Prop :=
  ∃ u, ∃ L : List Rt, e = .returned u ∧ 0 < L.length ∧ L.length ≤ 9 ∧ ratesV L = 0 ∧ RRow w.heap.size w' u L ∧ Deck B w' d v l ∧ Kept d w w'

set_option maxHeartbeats 4000000 in
theorem rates_any (B d : Nat) (v : Value) (l : List Int) (w : World) (h : Deck B w d v l) :
    Calls Try.prog 13 #[.pointer (some ⟨d, 0, none⟩)] w (RatesOut B d v l w) := by
  have hD0 := Lib.hid h
  have hK0 := Lib.hid (Kept.refl d w)
  have hdl := h.lt
  have hdB := h.ge
  clear h
  go_enter Try.func13, Try.ntmps13
  go_wp2_with fail
  go_loopw [3, 4] (fun x3 x4 wr => ∃ (L : List Rt) (c : Nat), x4 = .int .i64 c ∧ 1 ≤ c ∧ c ≤ 4 ∧ L.length ≤ 3 * (c - 1) ∧ c - 1 ≤ L.length ∧ Hid (TblTo L c 0) ∧ Hid (RRow w.heap.size wr x3 L) ∧ Hid (Deck B wr d v l) ∧ Hid (Kept d w wr)) (fun _ c _ => 4 - (RowKit.intOf c).toNat)
  case atStart => exact ⟨[], 1, rfl, by omega, by omega, by simp, by simp, Lib.hid (tblTo_nil _ _), Lib.hid (rrow_nil _ _), hD0, hK0⟩
  case round =>
    obtain ⟨L, c, rfl, hc1, hc4, hL1, hL2, hT, hR, hD, hK⟩ := hrel
    by_cases hc : c ≤ 3
    · go_wp2_with fail
      refine (next_any B d v l _ 3 (by omega) (by omega) hD.out).mono ?_; rintro e w2 ⟨k, hk, rfl, hD2, hK2⟩
      have hbl := hR.out.block
      have R2 := Lib.hid (rrow_kept hR.out hK2 (fun e => by have := (hbl d e).1; omega))
      have K2 := Lib.hid (hK.out.trans hK2)
      have D2 := Lib.hid hD2
      clear hbl hD2 hK2 hD hR hK
      have hcc := Lib.hid (show ((k : Nat) : Int) = ((k + 1 : Nat) : Int) - 1 by omega)
      go_wp2_with fail
      go_loopw [3, 5, 6] (fun x3 x5 x6 wr => ∃ (M : List Rt) (j f : Nat), x6 = .int .i64 ((j : Int) - 1) ∧ x5 = .int .i64 f ∧ M.length + j = L.length + (k + 1) ∧ f + 40 * j ≤ 40 * (k + 1) ∧ j ≤ k + 1 ∧ Hid (TblTo M c f) ∧ Hid (RRow w.heap.size wr x3 M) ∧ Hid (Deck B wr d v l) ∧ Hid (Kept d w wr)) (fun _ _ j _ => (RowKit.intOf j + 1).toNat)
      case atStart => exact ⟨L, k + 1, 0, by rw [hcc.out], rfl, by omega, by omega, by omega, hT, R2, D2, K2⟩
      case round =>
        obtain ⟨M, j, f, rfl, rfl, hM, hf, hjk, hT3, hR3, hD3, hK3⟩ := hrel
        by_cases hj : 0 < j
        · have hj0 : 0 ≤ (j : Int) - 1 := by omega
          go_wp2_with fail
          refine (upto_any B d v l _ 4000000 (by omega) hD3.out).mono ?_; rintro e w4 ⟨z, hz, rfl, hD4, hK4⟩
          have hbl := hR3.out.block
          have R4 := Lib.hid (rrow_kept hR3.out hK4 (fun e => by have := (hbl d e).1; omega))
          have K4 := Lib.hid (hK3.out.trans hK4)
          have D4 := Lib.hid hD4
          have hbl' := Lib.hid hbl
          clear hbl hD4 hK4 hD3 hR3 hK3
          have hp1 : (1000 : Int) + (z : Int) = ((1000 + z : Nat) : Int) := by omega
          have hT4 := Lib.hid (fun y : Nat => tblTo_snoc (p := ((1000 + z : Nat) : Int)) (c' := c) (f' := ((f + 1 + y : Nat) : Int)) hT3.out (by omega) (by omega) (by omega) (by omega))
          have hwz : w.heap.size ≤ w4.heap.size := K4.out.size
          clear hT3
          have hp1' := Lib.hid hp1
          clear hp1
          go_wp2_with (at_builtin; rw [hp1'.out]; refine wpList_append_rates rfl (.tmp 17) (.tmp 24) rfl w.heap.size u3 M rfl (R4.out.alloc (.cells #[.int .i64 (c : Int), .int .i64 (f : Int), .int .i64 ((1000 + z : Nat) : Int)] 35)) _ [⟨(c : Int), (f : Int), ((1000 + z : Nat) : Int)⟩] rfl (rate_one _ ⟨(c : Int), (f : Int), ((1000 + z : Nat) : Int)⟩) (by simp; omega) (by simp; omega) ?_; intro v' w6 hown hgrow)
          have K6 := Lib.hid ((K4.out.alloc (.cells #[.int .i64 (c : Int), .int .i64 (f : Int), .int .i64 ((1000 + z : Nat) : Int)] 35)).grown hgrow (fun g hg => (hbl'.out g hg).1))
          have D6 := Lib.hid ((D4.out.below ((Below.refl _ _).alloc (Nat.le_refl _) (.cells #[.int .i64 (c : Int), .int .i64 (f : Int), .int .i64 ((1000 + z : Nat) : Int)] 35))).grown hgrow (fun g hg => by have := (hbl'.out g hg).1; omega))
          have R6 := Lib.hid hown
          clear hown hgrow K4 D4 R4
          go_wp2_with fail
          refine (next_any B d v l _ 40 (by omega) (by omega) D6.out).mono ?_; rintro e w7 ⟨y, hy, rfl, hD7, hK7⟩
          have hbl7 := R6.out.block
          have R7 := Lib.hid (rrow_kept R6.out hK7 (fun e => by have := (hbl7 d e).1; omega))
          have K7 := Lib.hid (K6.out.trans hK7)
          have D7 := Lib.hid hD7
          have T7 := Lib.hid (hT4.out y)
          clear hbl7 hD7 hK7 D6 R6 K6 hT4
          go_wp2_with fail
          go_roundw
          case rel => exact ⟨M ++ [⟨(c : Int), (f : Int), ((1000 + z : Nat) : Int)⟩], j - 1, f + 1 + y, by rw [show ((j - 1 : Nat) : Int) = (j : Int) - 1 by omega], by rw [show ((f + 1 + y : Nat) : Int) = (f : Int) + 1 + (y : Int) by omega], by simp; omega, by omega, by omega, T7, R7, D7, K7⟩
          case measure => simp [RowKit.intOf]; omega
        · obtain rfl : j = 0 := by omega
          have hT5 := Lib.hid (tblTo_mono (c' := ((c + 1 : Nat) : Int)) (f' := 0) hT3.out (by omega))
          clear hT3
          go_wp2_with fail
          go_roundw
          case rel => exact ⟨M, c + 1, by go_num, by omega, by omega, by omega, by omega, hT5, hR3, hD3, hK3⟩
          case measure => simp [RowKit.intOf]; omega
    · obtain rfl : c = 4 := by omega
      have hfin : RatesOut B d v l w (.returned u3) wr := ⟨u3, L, rfl, by omega, by omega, by unfold ratesV; rw [if_neg (by omega)]; exact (fst0_zero _ _).2 hT.out.1, hR.out, hD.out, hK.out⟩
      have hfin' := Lib.hid hfin
      clear hfin
      go_wp2_with fail
      go_ret
      exact hfin'.out
end Go.Proofs.Ytcdfedkcefhdiaa.Dk
