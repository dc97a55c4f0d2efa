/- The reference's Schema. -/
import Derived.Test.YtdehldcgakdobaaGreatDoorScAttr
namespace Go.Proofs.YtdehldcgakdobaaGreatDoor.Sc
open Go.RowKit Go.Lib Go.Proofs.YtdehldcgakdobaaGreatDoor.Bas Go.Proofs.YtdehldcgakdobaaGreatDoor.Cal Go.Proofs.YtdehldcgakdobaaGreatDoor.Lx
set_option linter.unusedVariables false

theorem ret_i {a b : Int} (h : a = b) : Ending.returned (.int .i64 a) = .returned (.int .i64 b) := by rw [h]
theorem trans_b {a b c : World} (h : Below a.heap.size a b) (k : Below b.heap.size b c) : Below a.heap.size a c := h.trans (k.mono h.size)
/-- The five cells of an attribute. -/
def AAt (W : World) (b : Nat) (a : At) (u : Value) : Prop := b < W.heap.size ∧ W.cell? ⟨b, 0, none⟩ = some (.string (tx a.nm)) ∧ W.cell? ⟨b, 1, none⟩ = some (.int .i64 a.k) ∧ W.cell? ⟨b, 2, none⟩ = some u ∧ W.cell? ⟨b, 3, none⟩ = some (.int .i64 a.lo) ∧ W.cell? ⟨b, 4, none⟩ = some (.int .i64 a.hi)
theorem AAt.new (w : World) (a : At) (u : Value) (t : TypeId) : AAt (w.alloc (.cells #[.string (tx a.nm), .int .i64 a.k, u, .int .i64 a.lo, .int .i64 a.hi] t)) w.heap.size a u := by
  refine ⟨by simp, by simp, by simp, by simp, by simp, by simp⟩
theorem AAt.drewN {W : World} {b : Nat} {a : At} {u : Value} (h : AAt W b a u) (n : Nat) : AAt (W.drewN n) b a u := h
theorem AAt.keep {w w' : World} {b : Nat} {a : At} {u : Value} (h : AAt w b a u) (hb : Below w.heap.size w w') : AAt w' b a u := by
  obtain ⟨h0, h1, h2, h3, h4, h5⟩ := h
  refine ⟨Nat.lt_of_lt_of_le h0 hb.size, ?_, ?_, ?_, ?_, ?_⟩
  · rw [hb.cell (p := ⟨b, 0, none⟩) h0]; exact h1
  · rw [hb.cell (p := ⟨b, 1, none⟩) h0]; exact h2
  · rw [hb.cell (p := ⟨b, 2, none⟩) h0]; exact h3
  · rw [hb.cell (p := ⟨b, 3, none⟩) h0]; exact h4
  · rw [hb.cell (p := ⟨b, 4, none⟩) h0]; exact h5
/-- One cell. -/
def OAt (W : World) (b : Nat) (u : Value) : Prop := b < W.heap.size ∧ W.cell? ⟨b, 0, none⟩ = some u
theorem OAt.new (w : World) (u : Value) (t : TypeId) : OAt (w.alloc (.cells #[u] t)) w.heap.size u := ⟨by simp, by simp⟩
theorem OAt.keep {w w' : World} {b : Nat} {u : Value} (h : OAt w b u) (hb : Below w.heap.size w w') : OAt w' b u := by
  obtain ⟨h0, h1⟩ := h
  exact ⟨Nat.lt_of_lt_of_le h0 hb.size, by rw [hb.cell (p := ⟨b, 0, none⟩) h0]; exact h1⟩
set_option maxHeartbeats 1000000 in
theorem rsch_none (u : Value) (w : World) (L : List At) (h : AttsAt w u L) (h0 : L.length = 0) : Calls Tryz.prog 26 #[.agg #[u]] w (ErrBe 19 w) := by
  have B0 := Lib.hid (alloc_at w (.cells #[u] 25))
  obtain ⟨p, c, rfl, _, _⟩ := h
  rw [h0] at B0 ⊢
  clear h0
  go_enter Tryz.func26, Tryz.ntmps26
  go_wp2_with fail
  go_ret
  exact ⟨rfl, B0.out⟩
set_option maxHeartbeats 1000000 in
theorem rsch_many (u : Value) (w : World) (L : List At) (h : AttsAt w u L) (h6 : 6 < L.length) (hl : L.length ≤ 9223372036854775807) : Calls Tryz.prog 26 #[.agg #[u]] w (ErrBe 4 w) := by
  have B0 := Lib.hid (alloc_at w (.cells #[u] 25))
  obtain ⟨p, c, rfl, _, _⟩ := h
  generalize L.length = n at *
  have b1 : ((n : Int) == 0) = false := by simp; omega
  have b2 : decide ((6 : Int) < (n : Int)) = true := by simp; omega
  have b3 : decide (6 < n) = true := by simp; omega
  have b4 : (n == 0) = false := by simp; omega
  clear h6
  go_enter Tryz.func26, Tryz.ntmps26
  go_wp2_with fail
  go_ret
  exact ⟨rfl, B0.out⟩
set_option maxRecDepth 8000 in
set_option maxHeartbeats 16000000 in
theorem rsch_some (u : Value) (w : World) (L : List At) (h : AttsAt w u L) (h1 : 0 < L.length) (h6 : L.length ≤ 6) (hw : ∀ a ∈ L, AtWf a) : Calls Tryz.prog 26 #[.agg #[u]] w (ErrBe (schE L) w) := by
  have B0 := Lib.hid (alloc_at w (.cells #[u] 25))
  have A0 := Lib.hid (h.below B0.out)
  have O0 := Lib.hid (OAt.new w u 25)
  have hR := Lib.hid (fun r k => schE_at L r k h6)
  have hY := Lib.hid (schE_all L h6 h1)
  have hw' := Lib.hid hw
  obtain ⟨p, c, rfl, _, _⟩ := h
  obtain ⟨n, hn⟩ : ∃ n, L.length = n := ⟨_, rfl⟩
  have hn' := Lib.hid hn
  rw [hn] at h1 h6 hR hY B0 O0 A0 ⊢
  have b1 : ((n : Int) == 0) = false := by simp; omega
  have b2 : decide ((6 : Int) < (n : Int)) = false := by simp; omega
  have b3 : decide (6 < n) = false := by simp; omega
  have b4 : (n == 0) = false := by simp; omega
  generalize schE L = E at *
  clear hn hw
  go_enter Tryz.func26, Tryz.ntmps26
  go_upto_region 5 with fail
  clear b1 b2 b3 b4
  obtain ⟨b0, hb0⟩ : ∃ b, w.heap.size = b := ⟨_, rfl⟩
  rw [hb0] at O0 ⊢
  clear hb0
  generalize w.alloc (.cells #[.slice p n c] 25) = W0 at *
  go_wp2_with fail
  go_loopw [3] (fun i wr => ∃ k : Nat, k ≤ n ∧ i = .int .i64 k ∧ Hid (Below W0.heap.size W0 wr) ∧ Hid (∀ j, j < k → atE L j = 0)) (fun i _ => n - (RowKit.intOf i).toNat)
  case atStart => exact ⟨0, Nat.zero_le _, rfl, Lib.hid (Below.refl _ _), Lib.hid (fun j hj => absurd hj (Nat.not_lt_zero _))⟩
  case round =>
    obtain ⟨k, hk, rfl, hB, hZ⟩ := hrel
    have O1 := O0.out.keep hB.out
    have x0 := O1.2
    by_cases hlt : k < n
    · obtain ⟨p', c', hv, _, hp⟩ := A0.out.below hB.out
      obtain ⟨b, off, hpb, hc⟩ := hp (by rw [hn'.out]; omega)
      obtain rfl : p' = p := by cases hv; rfl
      subst hpb
      obtain ⟨y0, y1, ⟨uk, y2, hS⟩, y3, y4⟩ := hc k (by rw [hn'.out]; exact hlt)
      have hS' := Lib.hid hS
      obtain ⟨pk, ck, rfl, _, _⟩ := hS
      clear hv hp hc O1
      generalize (at' L k).ws.length = nk at *
      have hk64 : IntKind.i64.wrap ((k : Int) + 1) = (k : Int) + 1 := IntWalk.i64_in _ (by omega)
      have hkL : k < L.length := by rw [hn'.out]; exact hlt
      have hwf := hw'.out (at' L k) (by rw [at_at L k hkL]; exact List.getElem_mem _)
      have B1 := Lib.hid (hB.out.alloc hB.out.size (.cells #[.string (tx (at' L k).nm), .int .i64 (at' L k).k, .slice pk nk ck, .int .i64 (at' L k).lo, .int .i64 (at' L k).hi] 43))
      have hal := alloc_at wr (.cells #[.string (tx (at' L k).nm), .int .i64 (at' L k).k, .slice pk nk ck, .int .i64 (at' L k).lo, .int .i64 (at' L k).hi] 43)
      have K1 := Lib.hid (AAt.new wr (at' L k) (.slice pk nk ck) 43)
      have S1 := Lib.hid (hS'.out.below hal)
      have Q1 := Lib.hid (O0.out.keep B1.out)
      have A1 := Lib.hid (A0.out.below B1.out)
      have hc6 := Lib.hid (fun (h : nameB (at' L k).nm = false) => hR.out 6 k hlt (fun j hj => hZ.out j hj) (atE_name L k h) (by decide))
      have hc8 := Lib.hid (fun (h : nameB (at' L k).nm = true) j hj (e : (at' L j).nm = (at' L k).nm) => hR.out 8 k hlt (fun j hj => hZ.out j hj) (atE_dup L k h j hj e) (by decide))
      have hcA := Lib.hid (fun (h : nameB (at' L k).nm = true) hj => atE_att L k h hj)
      have hcR := Lib.hid (fun r (h : atE L k = r) (h0 : r ≠ 0) => hR.out r k hlt (fun j hj => hZ.out j hj) h h0)
      have cT := Lib.hid (fun w hS => rattr_any (at' L k) (.slice pk nk ck) w hS hwf)
      have hnm := hwf.1.1
      clear hal hwf hS' hkL
      go_upto_region 9 with fail
      clear x0 y0 y1 y2 y3 y4
      obtain ⟨b4, hb4⟩ : ∃ b, wr.heap.size = b := ⟨_, rfl⟩
      rw [hb4] at K1 ⊢
      clear hb4
      generalize wr.alloc (.cells #[.string (tx (at' L k).nm), .int .i64 (at' L k).k, .slice pk nk ck, .int .i64 (at' L k).lo, .int .i64 (at' L k).hi] 43) = W1 at *
      have cN := Lib.hid (rname_tx (at' L k).nm W1 hnm)
      obtain ⟨_, z0, z1, z2, z3, z4⟩ := K1.out
      obtain ⟨_, z5⟩ := Q1.out
      generalize hq : nameB (at' L k).nm = q at *
      have hq' := Lib.hid hq
      obtain ⟨nm, hnmm⟩ : ∃ s, tx (at' L k).nm = s := ⟨_, rfl⟩
      rw [hnmm] at z0 cN
      have hnm' := Lib.hid hnmm
      clear hq hnmm hnm hB
      go_wp2_with fail
      refine cN.out.mono ?_; rintro e w' ⟨rfl, rfl⟩
      cases q with
      | false =>
        have hE := Lib.hid (hc6.out rfl)
        clear hc6 hc8 hcA hcR cN
        go_wp2_with fail
        go_ret
        exact ⟨ret_i hE.out.symm, trans_b B0.out B1.out⟩
      | true =>
        have hc8' := Lib.hid (hc8.out rfl)
        have hcA' := Lib.hid (hcA.out rfl)
        clear hc6 hc8 hcA cN
        go_wp2_with fail
        go_loopw [5] (fun x wr2 => ∃ m : Nat, m ≤ k ∧ x = .int .i64 m ∧ Hid (Dr W1 wr2) ∧ Hid (∀ j, j < m → (at' L j).nm ≠ (at' L k).nm)) (fun x _ => k - (RowKit.intOf x).toNat)
        case atStart => exact ⟨0, Nat.zero_le _, rfl, Lib.hid (Dr.refl _), Lib.hid (fun j hj => absurd hj (Nat.not_lt_zero _))⟩
        case round =>
          obtain ⟨m, hm, rfl, hD2, hA2⟩ := hrel
          obtain ⟨nd, hnd⟩ := hD2.out
          subst hnd
          by_cases hmk : m < k
          · obtain ⟨p2, c2, hv2, _, hp2⟩ := A1.out
            obtain ⟨bb, oo, hpb2, hc2⟩ := hp2 (by rw [hn'.out]; omega)
            simp only [Value.slice.injEq] at hv2
            obtain ⟨hv2, _, _⟩ := hv2
            rw [hpb2] at hv2
            simp only [Option.some.injEq, Addr.mk.injEq] at hv2
            obtain ⟨rfl, rfl, _⟩ := hv2
            have h1 := (hc2 m (by rw [hn'.out]; omega)).1
            have hm64 : IntKind.i64.wrap ((m : Int) + 1) = (m : Int) + 1 := IntWalk.i64_in _ (by omega)
            have tt := tx_test (at' L m).nm (at' L k).nm
            rw [hnm'.out] at tt
            have hmn : m < n := by omega
            have hno := Lib.hid (hc8'.out m hmk)
            have hye := Lib.hid (fun (h : (at' L m).nm ≠ (at' L k).nm) => (show ∀ j, j < m + 1 → (at' L j).nm ≠ (at' L k).nm from fun j hj => by
              by_cases e : j = m
              · rw [e]; exact h
              · exact hA2.out j (by omega)))
            clear hp2 hc2 hpb2
            by_cases hxy : (at' L m).nm = (at' L k).nm
            · rw [decide_eq_true hxy] at tt
              have hE := Lib.hid (hno.out hxy)
              clear hxy hno hye
              generalize tx (at' L m).nm = sy at *
              go_wp2_with fail
              go_quiet (fail)
              go_wp2_with fail
              go_ret
              exact ⟨ret_i hE.out.symm, trans_b B0.out (below_drewN (below_drewN B1.out nd) _)⟩
            · rw [decide_eq_false hxy] at tt
              have hA3 := Lib.hid (hye.out hxy)
              clear hxy hno hye
              generalize tx (at' L m).nm = sy at *
              go_wp2_with fail
              go_quiet (fail)
              go_wp2_with fail
              go_roundw
              case rel => exact ⟨m + 1, by omega, by go_num, Lib.hid (show Dr W1 _ from by first | exact ⟨_, rfl⟩ | exact Dr.trans ⟨nd, rfl⟩ ⟨_, rfl⟩), hA3⟩
              case measure => simp [RowKit.intOf]; omega
          · obtain rfl : m = k := by omega
            have hE := hcA'.out (fun j hj => hA2.out j hj)
            have cX := Lib.hid (cT.out (W1.drewN nd) S1.out)
            generalize hr : attE (at' L m) = r at *
            clear hr
            have hcR' := Lib.hid (hcR.out r hE)
            unfold AtV at cX
            rw [hnm'.out] at cX
            have hE' := Lib.hid hE
            clear hE hcR hc8' hcA' hA2 cT
            go_wp2_with fail
            refine cX.out.mono ?_; rintro e W2 ⟨rfl, hB2⟩
            have B2 := Lib.hid (trans_b (below_drewN B1.out nd) hB2)
            clear hB2 cX
            by_cases hr0 : r = 0
            · subst hr0
              have hZ2 := Lib.hid (show ∀ j, j < m + 1 → atE L j = 0 from fun j hj => by
                by_cases e : j = m
                · rw [e]; exact hE'.out
                · exact hZ.out j (by omega))
              clear hcR' hE' hZ
              go_wp2_with fail
              go_roundw
              case rel => exact ⟨m + 1, by omega, by go_num, B2, hZ2⟩
              case measure => simp [RowKit.intOf]; omega
            · have t1 : (r == 0) = false := by simpa using hr0
              have hE2 := Lib.hid (hcR'.out hr0)
              clear hcR' hE' hr0
              go_wp2_with fail
              go_ret
              exact ⟨ret_i hE2.out.symm, trans_b B0.out B2.out⟩
    · obtain rfl : k = n := by omega
      have hE := Lib.hid (hY.out (fun j hj => hZ.out j hj))
      go_wp2_with fail
      go_ret
      exact ⟨ret_i hE.out.symm, trans_b B0.out hB.out⟩
/-- The reference's Validate. -/
theorem rschema_any (u : Value) (w : World) (L : List At) (h : AttsAt w u L) (hl : L.length ≤ 9223372036854775807) (hw : ∀ a ∈ L, AtWf a) : Calls Tryz.prog 26 #[.agg #[u]] w (ErrBe (schE L) w) := by
  by_cases h0 : L.length = 0
  · rw [show schE L = 19 by unfold schE; rw [if_pos h0]]
    exact rsch_none u w L h h0
  · by_cases h6 : 6 < L.length
    · rw [show schE L = 4 by unfold schE; rw [if_neg h0, if_pos h6]]
      exact rsch_many u w L h h6 hl
    · exact rsch_some u w L h (by omega) (by omega) hw
end Go.Proofs.YtdehldcgakdobaaGreatDoor.Sc
