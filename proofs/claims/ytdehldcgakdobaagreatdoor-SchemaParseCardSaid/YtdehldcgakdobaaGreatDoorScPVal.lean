/- The program's Index, validate, Validate. -/
import Derived.Test.YtdehldcgakdobaaGreatDoorScPAtt
import Derived.Test.YtdehldcgakdobaaGreatDoorScDom
namespace Go.Proofs.YtdehldcgakdobaaGreatDoor.Sc
open Go.RowKit Go.Lib Go.Proofs.YtdehldcgakdobaaGreatDoor.Bas Go.Proofs.YtdehldcgakdobaaGreatDoor.Cal Go.Proofs.YtdehldcgakdobaaGreatDoor.Lx
set_option linter.unusedVariables false

theorem at_take (L : List At) (k j : Nat) (h : j < k) : at' (L.take k) j = at' L j := by
  unfold at'; rw [List.getD_eq_getElem?_getD, List.getElem?_take, if_pos h, ← List.getD_eq_getElem?_getD]
theorem AttsAt.take {w : World} {p : Option Addr} {n c : Nat} {L : List At} (h : AttsAt w (.slice p n c) L) (k : Nat) (hk : k ≤ n) : AttsAt w (.slice p k c) (L.take k) := by
  obtain ⟨p', c', hv, ⟨h1, h2⟩, hp⟩ := h
  simp only [Value.slice.injEq] at hv
  obtain ⟨rfl, rfl, rfl⟩ := hv
  have hl : (L.take k).length = k := by rw [List.length_take]; omega
  refine ⟨p, c, by rw [hl], ⟨by omega, h2⟩, fun h0 => ?_⟩
  rw [hl] at h0 ⊢
  obtain ⟨b, off, e, hc⟩ := hp (by omega)
  exact ⟨b, off, e, fun j hj => by rw [at_take L k j hj]; exact hc j (by omega)⟩
/-- Is it a name among these? -/
def hasB (L : List At) (s : List UInt8) : Bool := !decide (∀ k, k < L.length → (at' L k).nm ≠ s)
theorem hasB_yes {L : List At} {s : List UInt8} {k : Nat} (hk : k < L.length) (h : (at' L k).nm = s) : hasB L s = true := by
  unfold hasB; rw [decide_eq_false (fun hh => hh k hk h)]; rfl
theorem hasB_no {L : List At} {s : List UInt8} (h : ∀ k, k < L.length → (at' L k).nm ≠ s) : hasB L s = false := by
  unfold hasB; rw [decide_eq_true h]; rfl
theorem hasB_dup (L : List At) (i : Nat) (hi : i ≤ L.length) : hasB (L.take i) (at' L i).nm = dupB L i := by
  have hl : (L.take i).length = i := by rw [List.length_take]; omega
  unfold hasB dupB
  rw [hl]
  congr 1
  apply decide_eq_decide.2
  constructor
  · intro h k hk; have := h k hk; rw [at_take L i k hk] at this; exact this
  · intro h k hk; rw [at_take L i k hk]; exact h k hk
def IdxBe (b : Bool) (w : World) (e : Ending) (w' : World) : Prop := ∃ i : Int, e = .returned (.tuple #[.int .i64 i, .bool b]) ∧ Below w.heap.size w w'
theorem ret_ib {i : Int} {a b : Bool} (h : b = a) : Ending.returned (.tuple #[.int .i64 i, .bool a]) = .returned (.tuple #[.int .i64 i, .bool b]) := by rw [h]
set_option maxRecDepth 8000 in
set_option maxHeartbeats 8000000 in
theorem pidx_any (u : Value) (w : World) (L : List At) (s : List UInt8) (h : AttsAt w u L) (hl : L.length ≤ 9223372036854775807) :
    Calls Tryz.prog 47 #[.agg #[u], .string (tx s)] w (IdxBe (hasB L s) w) := by
  have B0 := Lib.hid (alloc_at w (.cells #[u] 25))
  have A0 := Lib.hid (h.below B0.out)
  have O0 := Lib.hid (OAt.new w u 25)
  have hR := Lib.hid (show ∀ k, k < L.length → (at' L k).nm = s → hasB L s = true from fun k hk h => hasB_yes hk h)
  have hY := Lib.hid (show (∀ k, k < L.length → (at' L k).nm ≠ s) → hasB L s = false from hasB_no)
  obtain ⟨p, c, rfl, _, _⟩ := h
  obtain ⟨n, hn⟩ : ∃ n, L.length = n := ⟨_, rfl⟩
  have hn' := Lib.hid hn
  rw [hn] at hl hR hY B0 O0 A0 ⊢
  generalize hasB L s = E at *
  clear hn
  obtain ⟨ss, hss⟩ : ∃ q, tx s = q := ⟨_, rfl⟩
  rw [hss]
  have hs' := Lib.hid hss
  clear hss
  go_enter Tryz.func47, Tryz.ntmps47
  go_upto_region 1 with fail
  obtain ⟨b0, hb0⟩ : ∃ b, w.heap.size = b := ⟨_, rfl⟩
  rw [hb0] at O0 ⊢
  clear hb0
  generalize w.alloc (.cells #[.slice p n c] 25) = W0 at *
  have x0 := O0.out.2
  go_wp2_with fail
  go_loopw [11] (fun i wr => ∃ k : Nat, k ≤ n ∧ i = .int .i64 k ∧ Hid (Below W0.heap.size W0 wr) ∧ Hid (∀ j, j < k → (at' L j).nm ≠ s)) (fun i _ => n - (RowKit.intOf i).toNat)
  case atStart => exact ⟨0, Nat.zero_le _, rfl, Lib.hid (Below.refl _ _), Lib.hid (fun j hj => absurd hj (Nat.not_lt_zero _))⟩
  case round =>
    obtain ⟨k, hk, rfl, hB, hZ⟩ := hrel
    by_cases hlt : k < n
    · obtain ⟨p', c', hv, _, hp⟩ := A0.out.below hB.out
      obtain ⟨b, off, hpb, hc⟩ := hp (by rw [hn'.out]; omega)
      obtain rfl : p' = p := by cases hv; rfl
      subst hpb
      obtain ⟨y0, y1, ⟨uk, y2, hS⟩, y3, y4⟩ := hc k (by rw [hn'.out]; exact hlt)
      obtain ⟨pk, ck, rfl, _, _⟩ := hS
      clear hv hp hc x0
      generalize (at' L k).ws.length = nk at *
      have hk64 : IntKind.i64.wrap ((k : Int) + 1) = (k : Int) + 1 := IntWalk.i64_in _ (by omega)
      have B1 := Lib.hid (hB.out.alloc hB.out.size (.cells #[.string (tx (at' L k).nm), .int .i64 (at' L k).k, .slice pk nk ck, .int .i64 (at' L k).lo, .int .i64 (at' L k).hi] 43))
      have K1 := AAt.new wr (at' L k) (.slice pk nk ck) 43
      have tt := tx_test (at' L k).nm s
      rw [hs'.out] at tt
      have hno := Lib.hid (hR.out k hlt)
      have hye := Lib.hid (fun (h : (at' L k).nm ≠ s) => (show ∀ j, j < k + 1 → (at' L j).nm ≠ s from fun j hj => by
        by_cases e : j = k
        · rw [e]; exact h
        · exact hZ.out j (by omega)))
      go_upto_region 4 with fail
      clear y0 y1 y2 y3 y4
      obtain ⟨b4, hb4⟩ : ∃ b, wr.heap.size = b := ⟨_, rfl⟩
      rw [hb4] at K1 ⊢
      clear hb4
      generalize wr.alloc (.cells #[.string (tx (at' L k).nm), .int .i64 (at' L k).k, .slice pk nk ck, .int .i64 (at' L k).lo, .int .i64 (at' L k).hi] 43) = W1 at *
      have z0 := K1.2.1
      clear K1 hB
      by_cases hxy : (at' L k).nm = s
      · rw [decide_eq_true hxy] at tt
        have hE := Lib.hid (hno.out hxy)
        clear hxy hno hye
        generalize tx (at' L k).nm = sy at *
        go_wp2_with fail
        go_ret2
        exact ⟨_, ret_ib hE.out, trans_b B0.out B1.out⟩
      · rw [decide_eq_false hxy] at tt
        have hZ2 := Lib.hid (hye.out hxy)
        clear hxy hno hye hZ
        generalize tx (at' L k).nm = sy at *
        go_wp2_with fail
        go_roundw
        case rel => exact ⟨k + 1, by omega, by go_num, B1, hZ2⟩
        case measure => simp [RowKit.intOf]; omega
    · obtain rfl : k = n := by omega
      have hE := Lib.hid (hY.out (fun j hj => hZ.out j hj))
      go_wp2_with fail
      go_ret2
      exact ⟨_, ret_ib hE.out, trans_b B0.out hB.out⟩
def oneE (a : At) (L : List At) : Int := if nameB a.nm = false then 6 else if hasB L a.nm = true then 8 else attE a
set_option maxRecDepth 8000 in
set_option maxHeartbeats 8000000 in
theorem pone_any (a : At) (u : Value) (v : Value) (L : List At) (w : World) (h : StrsAt w u a.ws) (hw : AtWf a) (hA : AttsAt w v L) (hl : L.length ≤ 9223372036854775807) : Calls Tryz.prog 30 #[AtV a u, v] w (ErrBe (oneE a L) w) := by
  have hal := alloc_at w (.cells #[.string (tx a.nm), .int .i64 a.k, u, .int .i64 a.lo, .int .i64 a.hi] 43)
  have B0 := Lib.hid hal
  have S0 := Lib.hid (h.below hal)
  have A0 := Lib.hid (hA.below hal)
  have K0 := Lib.hid (AAt.new w a u 43)
  have cN := Lib.hid (fun w => pname_tx a.nm w hw.1.1)
  have cI := Lib.hid (fun w h => pidx_any v w L a.nm h hl)
  have c1 := Lib.hid (fun w h hk => pword_any a u w h hw hk)
  have c2 := Lib.hid (fun w h hk => pnum_any a u w h hw hk)
  have c3 := Lib.hid (fun w h hk => ptruth_any a u w h hw hk)
  have hO := Lib.hid (show ¬ a.k = 1 → ¬ a.k = 2 → ¬ a.k = 3 → attE a = 11 from fun h1 h2 h3 => by unfold attE; rw [if_neg h1, if_neg h2, if_neg h3])
  have hE : oneE a L = if nameB a.nm = false then 6 else if hasB L a.nm = true then 8 else attE a := rfl
  obtain ⟨p, c, rfl, _, _⟩ := hA
  obtain ⟨pu, cu, rfl, _, _⟩ := h
  clear hal hw hl
  unfold AtV at c1 c2 c3 ⊢
  generalize oneE a L = R at *
  generalize attE a = E at *
  generalize L.length = n at *
  generalize nameB a.nm = q at *
  generalize hasB L a.nm = r at *
  obtain ⟨nm, hnm⟩ : ∃ s, tx a.nm = s := ⟨_, rfl⟩
  rw [hnm] at cN cI B0 S0 A0 K0 c1 c2 c3 ⊢
  have hnm' := Lib.hid hnm
  clear hnm
  have hE' := Lib.hid hE
  clear hE
  go_enter Tryz.func30, Tryz.ntmps30
  go_upto_region 1 with fail
  obtain ⟨b0, hb0⟩ : ∃ b, w.heap.size = b := ⟨_, rfl⟩
  rw [hb0] at K0 ⊢
  clear hb0
  generalize w.alloc (.cells #[.string nm, .int .i64 a.k, .slice pu a.ws.length cu, .int .i64 a.lo, .int .i64 a.hi] 43) = W0 at *
  obtain ⟨_, z0, z1, z2, z3, z4⟩ := K0.out
  rw [hnm'.out] at z0
  go_wp2_with fail
  refine (cN.out _).mono ?_; rintro e w' ⟨rfl, rfl⟩
  cases q with
  | false =>
    have hR := Lib.hid (hE'.out.trans (if_pos rfl))
    clear hE' cN cI c1 c2 c3
    go_wp2_with fail
    go_ret
    exact ⟨ret_i hR.out.symm, B0.out⟩
  | true =>
    have hE2 := Lib.hid (hE'.out.trans (if_neg (by simp)))
    clear hE' cN
    go_wp2_with fail
    refine (cI.out _ A0.out).mono ?_; rintro e W1 ⟨i, rfl, hB1⟩
    have B1 := Lib.hid (trans_b B0.out hB1)
    have S1 := Lib.hid (S0.out.below hB1)
    have K1 := Lib.hid (K0.out.keep hB1)
    clear hB1 z0 z1 z2 z3 z4 K0 S0 A0 B0 cI
    obtain ⟨_, z0, z1, z2, z3, z4⟩ := K1.out
    rw [hnm'.out] at z0
    cases r with
    | true =>
      have hR := Lib.hid (hE2.out.trans (if_pos rfl))
      clear hE2 c1 c2 c3
      go_wp2_with fail
      go_ret
      exact ⟨ret_i hR.out.symm, B1.out⟩
    | false =>
      have hE3 := Lib.hid (hE2.out.trans (if_neg (by simp)))
      clear hE2
      by_cases k1 : a.k = 1
      · have cX := Lib.hid (c1.out W1 S1.out k1)
        rw [k1] at z1 cX
        clear c1 c2 c3 hO k1
        go_wp2_with fail
        refine cX.out.mono ?_; rintro e W2 ⟨rfl, hB2⟩
        have B2 := Lib.hid (trans_b B1.out hB2)
        clear hB2
        go_wp2_with fail
        go_ret
        exact ⟨ret_i hE3.out.symm, B2.out⟩
      · by_cases k2 : a.k = 2
        · have cX := Lib.hid (c2.out W1 S1.out k2)
          rw [k2] at z1 cX
          clear c1 c2 c3 hO k1 k2
          go_wp2_with fail
          refine cX.out.mono ?_; rintro e W2 ⟨rfl, hB2⟩
          have B2 := Lib.hid (trans_b B1.out hB2)
          clear hB2
          go_wp2_with fail
          go_ret
          exact ⟨ret_i hE3.out.symm, B2.out⟩
        · by_cases k3 : a.k = 3
          · have cX := Lib.hid (c3.out W1 S1.out k3)
            rw [k3] at z1 cX
            clear c1 c2 c3 hO k1 k2 k3
            go_wp2_with fail
            refine cX.out.mono ?_; rintro e W2 ⟨rfl, hB2⟩
            have B2 := Lib.hid (trans_b B1.out hB2)
            clear hB2
            go_wp2_with fail
            go_ret
            exact ⟨ret_i hE3.out.symm, B2.out⟩
          · have hE4 := Lib.hid (hO.out k1 k2 k3)
            have e1 : (a.k == 1) = false := by simpa using k1
            have e2 : (a.k == 2) = false := by simpa using k2
            have e3 : (a.k == 3) = false := by simpa using k3
            generalize a.k = kk at *
            clear c1 c2 c3 hO k1 k2 k3
            go_wp2_with fail
            go_ret
            exact ⟨ret_i (hE3.out.trans hE4.out).symm, B1.out⟩
theorem oneE_at (L : List At) (k : Nat) (hk : k ≤ L.length) : oneE (at' L k) (L.take k) = atE L k := by
  unfold oneE atE; rw [hasB_dup L k hk]
set_option maxHeartbeats 1000000 in
theorem pval_none (u : Value) (w : World) (L : List At) (h : AttsAt w u L) (h0 : L.length = 0) : Calls Tryz.prog 18 #[.agg #[u]] w (ErrBe 19 w) := by
  have B0 := Lib.hid (alloc_at w (.cells #[u] 25))
  obtain ⟨p, c, rfl, _, _⟩ := h
  rw [h0] at B0 ⊢
  clear h0
  go_enter Tryz.func18, Tryz.ntmps18
  go_wp2_with fail
  go_ret
  exact ⟨rfl, B0.out⟩
set_option maxHeartbeats 1000000 in
theorem pval_many (u : Value) (w : World) (L : List At) (h : AttsAt w u L) (h6 : 6 < L.length) (hl : L.length ≤ 9223372036854775807) : Calls Tryz.prog 18 #[.agg #[u]] w (ErrBe 4 w) := by
  have B0 := Lib.hid (alloc_at w (.cells #[u] 25))
  obtain ⟨p, c, rfl, _, _⟩ := h
  generalize L.length = n at *
  have b1 : ((n : Int) == 0) = false := by simp; omega
  have b2 : decide ((6 : Int) < (n : Int)) = true := by simp; omega
  have b3 : decide (6 < n) = true := by simp; omega
  have b4 : (n == 0) = false := by simp; omega
  clear h6
  go_enter Tryz.func18, Tryz.ntmps18
  go_wp2_with fail
  go_ret
  exact ⟨rfl, B0.out⟩
set_option maxRecDepth 8000 in
set_option maxHeartbeats 16000000 in
theorem pval_some (u : Value) (w : World) (L : List At) (h : AttsAt w u L) (h1 : 0 < L.length) (h6 : L.length ≤ 6) (hw : ∀ a ∈ L, AtWf a) : Calls Tryz.prog 18 #[.agg #[u]] w (ErrBe (schE L) w) := by
  have B0 := Lib.hid (alloc_at w (.cells #[u] 25))
  have A0 := Lib.hid (h.below B0.out)
  have O0 := Lib.hid (OAt.new w u 25)
  have hR := Lib.hid (fun r k => schE_at L r k h6)
  have hY := Lib.hid (schE_all L h6 h1)
  have hw' := Lib.hid hw
  obtain ⟨p, c, rfl, ⟨hcap, _⟩, _⟩ := h
  obtain ⟨n, hn⟩ : ∃ n, L.length = n := ⟨_, rfl⟩
  have hn' := Lib.hid hn
  rw [hn] at h1 h6 hR hY B0 O0 A0 hcap ⊢
  have b1 : ((n : Int) == 0) = false := by simp; omega
  have b2 : decide ((6 : Int) < (n : Int)) = false := by simp; omega
  have b3 : decide (6 < n) = false := by simp; omega
  have b4 : (n == 0) = false := by simp; omega
  generalize schE L = E at *
  clear hn hw
  go_enter Tryz.func18, Tryz.ntmps18
  go_upto_region 5 with fail
  clear b1 b2 b3 b4
  obtain ⟨b0, hb0⟩ : ∃ b, w.heap.size = b := ⟨_, rfl⟩
  rw [hb0] at O0 ⊢
  clear hb0
  generalize w.alloc (.cells #[.slice p n c] 25) = W0 at *
  have x0 := O0.out.2
  go_wp2_with fail
  go_loopw [19] (fun i wr => ∃ k : Nat, k ≤ n ∧ i = .int .i64 k ∧ Hid (Below W0.heap.size W0 wr) ∧ Hid (∀ j, j < k → atE L j = 0)) (fun i _ => n - (RowKit.intOf i).toNat)
  case atStart => exact ⟨0, Nat.zero_le _, rfl, Lib.hid (Below.refl _ _), Lib.hid (fun j hj => absurd hj (Nat.not_lt_zero _))⟩
  case round =>
    obtain ⟨k, hk, rfl, hB, hZ⟩ := hrel
    clear x0
    by_cases hlt : k < n
    · obtain ⟨p', c', hv, _, hp⟩ := A0.out.below hB.out
      obtain ⟨b, off, hpb, hc⟩ := hp (by rw [hn'.out]; omega)
      obtain rfl : p' = p := by cases hv; rfl
      subst hpb
      obtain ⟨y0, y1, ⟨uk, y2, hS⟩, y3, y4⟩ := hc k (by rw [hn'.out]; exact hlt)
      have hS' := Lib.hid hS
      obtain ⟨pk, ck, rfl, _, _⟩ := hS
      clear hv hp hc
      generalize (at' L k).ws.length = nk at *
      have hk64 : IntKind.i64.wrap ((k : Int) + 1) = (k : Int) + 1 := IntWalk.i64_in _ (by omega)
      have hkL : k < L.length := by rw [hn'.out]; exact hlt
      have hwf := hw'.out (at' L k) (by rw [at_at L k hkL]; exact List.getElem_mem _)
      have B1 := Lib.hid (hB.out.alloc hB.out.size (.cells #[.string (tx (at' L k).nm), .int .i64 (at' L k).k, .slice pk nk ck, .int .i64 (at' L k).lo, .int .i64 (at' L k).hi] 43))
      have hal := alloc_at wr (.cells #[.string (tx (at' L k).nm), .int .i64 (at' L k).k, .slice pk nk ck, .int .i64 (at' L k).lo, .int .i64 (at' L k).hi] 43)
      have K1 := Lib.hid (AAt.new wr (at' L k) (.slice pk nk ck) 43)
      have S1 := Lib.hid (hS'.out.below hal)
      have Q1 := Lib.hid (O0.out.keep B1.out)
      have A1 := Lib.hid ((A0.out.below B1.out).take k hk)
      have hone := Lib.hid (oneE_at L k (by omega))
      have hcR := Lib.hid (fun r (h : atE L k = r) (h0 : r ≠ 0) => hR.out r k hlt (fun j hj => hZ.out j hj) h h0)
      have hlk : (L.take k).length ≤ 9223372036854775807 := by rw [List.length_take]; omega
      have cV := Lib.hid (fun w hS hA => pone_any (at' L k) (.slice pk nk ck) (.slice (some ⟨b, off, none⟩) k c) (L.take k) w hS hwf hA hlk)
      unfold AtV at cV
      rw [hone.out] at cV
      clear hal hwf hS' hkL hlk hone
      go_upto_region 8 with fail
      clear y0 y1 y2 y3 y4
      obtain ⟨b4, hb4⟩ : ∃ b, wr.heap.size = b := ⟨_, rfl⟩
      rw [hb4] at K1 ⊢
      clear hb4
      generalize wr.alloc (.cells #[.string (tx (at' L k).nm), .int .i64 (at' L k).k, .slice pk nk ck, .int .i64 (at' L k).lo, .int .i64 (at' L k).hi] 43) = W1 at *
      obtain ⟨_, z0, z1, z2, z3, z4⟩ := K1.out
      obtain ⟨_, z5⟩ := Q1.out
      have cX := Lib.hid (cV.out W1.drew S1.out A1.out)
      generalize hr : atE L k = r at *
      have hr' := Lib.hid hr
      generalize tx (at' L k).nm = nm at *
      have hkc : k ≤ c := by omega
      clear hr hB cV S1 A1 K1 Q1
      have hd := Lib.hid (show Below W1.heap.size W1 W1.drew from below_drewN (Below.refl _ _) 1)
      go_cut [5] (fun x5 wx => x5 = .int .i64 r ∧ Hid (Below W1.heap.size W1 wx))
      case first =>
        go_region_with (refine cX.out.mono ?_; rintro e W2 ⟨rfl, hB2⟩)
        all_goals
          have B2 := Lib.hid (trans_b hd.out hB2)
          clear hB2
          go_wp2_with fail
          go_meet
          case rel => exact ⟨rfl, B2⟩
      case rest =>
        obtain ⟨rfl, hB2⟩ := hcut
        have B3 := Lib.hid (B1.out.trans (hB2.out.mono B1.out.size))
        clear cX z0 z1 z2 z3 z4 z5 hB2 B1
        by_cases hr0 : r = 0
        · have hZ2 := Lib.hid (show ∀ j, j < k + 1 → atE L j = 0 from fun j hj => by
            by_cases e : j = k
            · rw [e, hr'.out]; exact hr0
            · exact hZ.out j (by omega))
          subst hr0
          clear hcR hr' hZ
          go_wp2_with fail
          go_roundw
          case rel => exact ⟨k + 1, by omega, by go_num, B3, hZ2⟩
          case measure => simp [RowKit.intOf]; omega
        · have t1 : (r == 0) = false := by simpa using hr0
          have hE2 := Lib.hid (hcR.out r rfl hr0)
          clear hcR hr' hr0
          go_wp2_with fail
          go_ret
          exact ⟨ret_i hE2.out.symm, trans_b B0.out B3.out⟩
    · obtain rfl : k = n := by omega
      have hE := Lib.hid (hY.out (fun j hj => hZ.out j hj))
      go_wp2_with fail
      go_ret
      exact ⟨ret_i hE.out.symm, trans_b B0.out hB.out⟩
/-- The program's Validate. -/
theorem pval_any (u : Value) (w : World) (L : List At) (h : AttsAt w u L) (hl : L.length ≤ 9223372036854775807) (hw : ∀ a ∈ L, AtWf a) : Calls Tryz.prog 18 #[.agg #[u]] w (ErrBe (schE L) w) := by
  by_cases h0 : L.length = 0
  · rw [show schE L = 19 by unfold schE; rw [if_pos h0]]
    exact pval_none u w L h h0
  · by_cases h6 : 6 < L.length
    · rw [show schE L = 4 by unfold schE; rw [if_neg h0, if_pos h6]]
      exact pval_many u w L h h6 hl
    · exact pval_some u w L h (by omega) (by omega) hw
end Go.Proofs.YtdehldcgakdobaaGreatDoor.Sc
