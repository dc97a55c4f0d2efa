/- The reference's Facts. -/
import Derived.Test.YtdehldcgakdobaaGreatDoorScDom
import Derived.Test.YtdehldcgakdobaaGreatDoorIntsB
namespace Go.Proofs.YtdehldcgakdobaaGreatDoor.Sc
open Go.RowKit Go.Lib Go.Proofs.YtdehldcgakdobaaGreatDoor.Bas Go.Proofs.YtdehldcgakdobaaGreatDoor.Cal Go.Proofs.YtdehldcgakdobaaGreatDoor.Lx
set_option linter.unusedVariables false

/-- A bool; nothing of before has changed. -/
def BoolBe (b : Bool) (w : World) (e : Ending) (w' : World) : Prop := e = .returned (.bool b) ∧ Below w.heap.size w w'
theorem domAt_in (L : List At) (k : Nat) (hE : schE L = 0) (hk : k < L.length) : domAt L k = domV (at' L k) := by
  unfold domAt
  rw [if_neg (by rintro (e | e | e); exact e hE; omega; omega), Int.toNat_natCast]
theorem facts_no (L : List At) (f : List Int) (k : Nat) (hk : k < L.length) (h : f.getD k 0 < (domV (at' L k)).1 ∨ (domV (at' L k)).2 < f.getD k 0) : factsB L f = false := by
  unfold factsB
  apply decide_eq_false
  rintro ⟨_, _, hh⟩
  have := hh k hk
  omega
set_option maxRecDepth 8000 in
set_option maxHeartbeats 16000000 in
theorem rfacts_any (u : Value) (w : World) (L : List At) (vf : Value) (f : List Int) (h : AttsAt w u L) (hl : L.length ≤ 9223372036854775807) (hw : ∀ a ∈ L, AtWf a) (hI : IntsAt w vf f) (hlf : f.length ≤ 9223372036854775807) :
    Calls Tryz.prog 28 #[.agg #[u], vf] w (BoolBe (factsB L f) w) := by
  have B0 := Lib.hid (alloc_at w (.cells #[u] 25))
  have A0 := Lib.hid (h.below B0.out)
  have O0 := Lib.hid (OAt.new w u 25)
  have I0 := Lib.hid (hI.below B0.out)
  obtain ⟨p, c, rfl, _, _⟩ := h
  obtain ⟨pf, cf, rfl, hpf⟩ := hI
  have cS := Lib.hid (rschema_any _ (w.alloc (.cells #[.slice p L.length c] 25)) L A0.out hl hw)
  obtain ⟨n, hn⟩ : ∃ n, L.length = n := ⟨_, rfl⟩
  have hn' := Lib.hid hn
  obtain ⟨nf, hnf⟩ : ∃ n, f.length = n := ⟨_, rfl⟩
  have hnf' := Lib.hid hnf
  have cD := Lib.hid (fun W (i : Int) hA hi => rdom_any (.slice p L.length c) W L i hA hl hw hi)
  have hF0 := Lib.hid (fun (h : schE L ≠ 0) => show factsB L f = false from decide_eq_false (fun e => h e.1))
  have hF1 := Lib.hid (fun (h : f.length ≠ L.length) => show factsB L f = false from decide_eq_false (fun e => h e.2.1))
  have hF2 := Lib.hid (fun k hk h => facts_no L f k hk h)
  have hF3 := Lib.hid (fun (h0 : schE L = 0) (h1 : f.length = L.length) (h2 : ∀ i, i < L.length → (domV (at' L i)).1 ≤ f.getD i 0 ∧ f.getD i 0 ≤ (domV (at' L i)).2) => show factsB L f = true from decide_eq_true ⟨h0, h1, h2⟩)
  have hdm := Lib.hid (fun k => domAt_in L k)
  have hok := Lib.hid (schE_ok L)
  rw [hn] at hl B0 O0 A0 cS cD hF1 hF2 hF3 hdm hok I0 ⊢
  rw [hnf] at hlf hF1 hF3 I0 ⊢
  generalize factsB L f = R at *
  generalize schE L = E at *
  clear hn hnf hw hpf
  obtain ⟨b0, hb0⟩ : ∃ b, w.heap.size = b := ⟨_, rfl⟩
  by_cases hE0 : E = 0
  · subst hE0
    by_cases hnn : nf = n
    · subst hnn
      have hF3' := Lib.hid (hF3.out rfl rfl)
      have hdm' := Lib.hid (fun k hk => hdm.out k rfl hk)
      have hn6 := (hok.out rfl).2.1
      rw [hb0] at O0
      clear hF0 hF1 hF3 hok hdm
      go_enter Tryz.func28, Tryz.ntmps28
      go_wp2_with fail
      refine cS.out.mono ?_; rintro e W1 ⟨rfl, hB1⟩
      have B1 := Lib.hid (trans_b B0.out hB1)
      have A1 := Lib.hid (A0.out.below hB1)
      have I1 := Lib.hid (I0.out.below hB1)
      have O1 := Lib.hid (O0.out.keep hB1)
      have x0 := O1.out.2
      clear hB1 hb0 cS A0 O0 I0 B0
      go_wp2_with fail
      clear x0
      go_loopw [5] (fun i wr => ∃ k : Nat, k ≤ nf ∧ i = .int .i64 k ∧ Hid (Below W1.heap.size W1 wr) ∧ Hid (∀ j, j < k → (domV (at' L j)).1 ≤ f.getD j 0 ∧ f.getD j 0 ≤ (domV (at' L j)).2)) (fun i _ => nf - (RowKit.intOf i).toNat)
      case atStart => exact ⟨0, Nat.zero_le _, rfl, Lib.hid (Below.refl _ _), Lib.hid (fun j hj => absurd hj (Nat.not_lt_zero _))⟩
      case round =>
        obtain ⟨k, hk, rfl, hB, hZ⟩ := hrel
        have x0 := (O1.out.keep hB.out).2
        by_cases hlt : k < nf
        · have hk64 : IntKind.i64.wrap ((k : Int) + 1) = (k : Int) + 1 := IntWalk.i64_in _ (by omega)
          have cX := Lib.hid (cD.out wr k (A1.out.below hB.out) (by omega))
          rw [hdm'.out k hlt] at cX
          have hno := Lib.hid (hF2.out k hlt)
          have hye := Lib.hid (fun (h : (domV (at' L k)).1 ≤ f.getD k 0 ∧ f.getD k 0 ≤ (domV (at' L k)).2) => (show ∀ j, j < k + 1 → (domV (at' L j)).1 ≤ f.getD j 0 ∧ f.getD j 0 ≤ (domV (at' L j)).2 from fun j hj => by
            by_cases e : j = k
            · rw [e]; exact h
            · exact hZ.out j (by omega)))
          generalize domV (at' L k) = D at *
          obtain ⟨lo, hi⟩ := D
          clear hdm' hF2
          go_wp2_with fail
          refine cX.out.mono ?_; rintro e W2 ⟨rfl, hB2⟩
          have B2 := Lib.hid (trans_b hB.out hB2)
          obtain ⟨pf2, cf2, hv, hp2⟩ := I1.out.below B2.out
          obtain ⟨bf, of, hpb, hc⟩ := hp2 (by rw [hnf'.out]; omega)
          obtain rfl : pf2 = pf := by cases hv; rfl
          subst hpb
          have y0 := hc k (by rw [hnf'.out]; exact hlt)
          clear hB2 cX hv hp2 hc x0
          generalize f.getD k 0 = z at *
          by_cases hzl : z < lo
          · have t1 : decide (z < lo) = true := by simpa using hzl
            have hE := Lib.hid (hno.out (.inl hzl))
            clear hno hye
            go_wp2_with fail
            go_ret
            exact ⟨ret_b hE.out.symm, trans_b B1.out B2.out⟩
          · have t1 : decide (z < lo) = false := by simpa using hzl
            by_cases hzh : hi < z
            · have t2 : decide (hi < z) = true := by simpa using hzh
              have hE := Lib.hid (hno.out (.inr hzh))
              clear hno hye
              go_wp2_with fail
              go_ret
              exact ⟨ret_b hE.out.symm, trans_b B1.out B2.out⟩
            · have t2 : decide (hi < z) = false := by simpa using hzh
              have hZ2 := Lib.hid (hye.out ⟨by show lo ≤ z; omega, by show z ≤ hi; omega⟩)
              clear hno hye hZ
              go_wp2_with fail
              go_roundw
              case rel => exact ⟨k + 1, by omega, by go_num, B2, hZ2⟩
              case measure => simp [RowKit.intOf]; omega
        · have hE := Lib.hid (hF3'.out (fun j hj => hZ.out j (by omega)))
          go_wp2_with fail
          go_ret
          exact ⟨ret_b hE.out.symm, trans_b B1.out hB.out⟩
    · have hE := Lib.hid (hF1.out hnn)
      have t1 : ((nf : Int) == (n : Int)) = false := by simp; omega
      have t2 : (nf == n) = false := by simpa using hnn
      rw [hb0] at O0
      clear hF0 hF1 hF2 hF3 hok hdm
      go_enter Tryz.func28, Tryz.ntmps28
      go_wp2_with fail
      refine cS.out.mono ?_; rintro e W1 ⟨rfl, hB1⟩
      have B1 := Lib.hid (trans_b B0.out hB1)
      have x0 := (O0.out.keep hB1).2
      clear hB1 hb0
      go_wp2_with fail
      go_ret
      exact ⟨ret_b hE.out.symm, B1.out⟩
  · have hE := Lib.hid (hF0.out hE0)
    have t1 : (E == 0) = false := by simpa using hE0
    clear hF0 hF1 hF2 hF3 hok hdm
    go_enter Tryz.func28, Tryz.ntmps28
    go_wp2_with fail
    refine cS.out.mono ?_; rintro e W1 ⟨rfl, hB1⟩
    have B1 := Lib.hid (trans_b B0.out hB1)
    clear hB1
    go_wp2_with fail
    go_ret
    exact ⟨ret_b hE.out.symm, B1.out⟩
end Go.Proofs.YtdehldcgakdobaaGreatDoor.Sc
