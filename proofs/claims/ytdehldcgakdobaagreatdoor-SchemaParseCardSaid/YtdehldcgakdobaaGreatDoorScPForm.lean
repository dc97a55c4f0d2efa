/- The program's Format. -/
import Derived.Test.YtdehldcgakdobaaGreatDoorScPFmt
import Derived.Test.YtdehldcgakdobaaGreatDoorSRow
import Derived.Test.YtdehldcgakdobaaGreatDoorScParM
namespace Go.Proofs.YtdehldcgakdobaaGreatDoor.Sc
open Go.RowKit Go.Lib Go.Proofs.YtdehldcgakdobaaGreatDoor.Bas Go.Proofs.YtdehldcgakdobaaGreatDoor.Cal Go.Proofs.YtdehldcgakdobaaGreatDoor.Lx
set_option linter.unusedVariables false

/-- strings.Join of these strings. -/
theorem pjoin_any (v : Value) (l : List (List UInt8)) (sep : List UInt8) (w : World) (h : StrsAt w v l) (hl : l.length ≤ 1000) (hj : (Lib.join l sep).length ≤ 1000000) : Calls Tryz.prog 21 #[v, .string (tx sep)] w (TxtBe (Lib.join l sep) w) := by
  obtain ⟨p, c, rfl, ⟨hc, _⟩, hp⟩ := h
  have hm : (l.map tx).map (·.data.toList) = l := by
    rw [List.map_map]
    conv => rhs; rw [← List.map_id l]
    rfl
  by_cases h0 : l.length = 0
  · have hl0 : l = [] := List.length_eq_zero_iff.1 h0
    subst hl0
    exact (Tryz.strings_Join_none p c (tx sep) w).mono fun e w' ⟨h1, h2⟩ => ⟨h1, by subst h2; exact Below.refl _ _⟩
  · obtain ⟨b, off, rfl, hcc⟩ := hp (by omega)
    have hml : (l.map tx).length = l.length := by simp
    have := Tryz.strings_Join b off c (l.map tx) (tx sep) w (fun j x hx => by
      have hj := (List.getElem?_eq_some_iff.1 hx).1
      rw [hml] at hj
      rw [hcc j hj]
      simp [hj, List.getD_eq_getElem?_getD] at hx ⊢
      exact hx) (World.block_lt_of_cell? _ _ (hcc 0 (by omega))) (by rw [hml]; omega) (by rw [hml]; exact hc) (by rw [hm]; show (Lib.join l sep).length ≤ _; omega)
    rw [hml, hm] at this
    exact this
theorem held6 {W3 W4 : World} {b4 bf o : Nat} {v0 v1 v2 v3 v4 z : Value} (hb : b4 < W3.heap.size) (hf : bf < W3.heap.size) (h0 : W3.cell? ⟨b4, 0, none⟩ = some v0) (h1 : W3.cell? ⟨b4, 1, none⟩ = some v1) (h2 : W3.cell? ⟨b4, 2, none⟩ = some v2) (h3 : W3.cell? ⟨b4, 3, none⟩ = some v3) (h4 : W3.cell? ⟨b4, 4, none⟩ = some v4) (hz : W3.cell? ⟨bf, o, none⟩ = some z) (hB : Below W3.heap.size W3 W4) :
    W4.cell? ⟨b4, 0, none⟩ = some v0 ∧ W4.cell? ⟨b4, 1, none⟩ = some v1 ∧ W4.cell? ⟨b4, 2, none⟩ = some v2 ∧ W4.cell? ⟨b4, 3, none⟩ = some v3 ∧ W4.cell? ⟨b4, 4, none⟩ = some v4 ∧ W4.cell? ⟨bf, o, none⟩ = some z := by
  refine ⟨?_, ?_, ?_, ?_, ?_, ?_⟩
  · rw [hB.cell (p := ⟨b4, 0, none⟩) hb]; exact h0
  · rw [hB.cell (p := ⟨b4, 1, none⟩) hb]; exact h1
  · rw [hB.cell (p := ⟨b4, 2, none⟩) hb]; exact h2
  · rw [hB.cell (p := ⟨b4, 3, none⟩) hb]; exact h3
  · rw [hB.cell (p := ⟨b4, 4, none⟩) hb]; exact h4
  · rw [hB.cell (p := ⟨bf, o, none⟩) hf]; exact hz
set_option maxRecDepth 8000 in
set_option maxHeartbeats 16000000 in
theorem pfmt_good (u : Value) (w : World) (L : List At) (vf : Value) (f : List Int) (h : AttsAt w u L) (hw : ∀ a ∈ L, AtWf a) (hI : IntsAt w vf f) (hb : factsB L f = true) (hT : Lib.TabIs Tryz.prog w powName .u64 Lib.pow10Tab)
    (hkeep : ∀ {w w' : World}, Lib.TabIs Tryz.prog w powName .u64 Lib.pow10Tab → Below w.heap.size w w' → Lib.TabIs Tryz.prog w' powName .u64 Lib.pow10Tab) :
    Calls Tryz.prog 8 #[.agg #[u], vf] w (TextBe (fmtP L f L.length, 0) w) := by
  have B0 := Lib.hid (alloc_at w (.cells #[u] 25))
  have A0 := Lib.hid (h.below B0.out)
  have O0 := Lib.hid (OAt.new w u 25)
  have I0 := Lib.hid (hI.below B0.out)
  have T0 := Lib.hid (hkeep hT B0.out)
  have hkeep' := Lib.hid (fun w w' h hb => @hkeep w w' h hb)
  obtain ⟨hE, hlen, hin⟩ := facts_ok L f hb
  obtain ⟨hn1, hn6, hat⟩ := schE_ok L hE
  obtain ⟨p, c, rfl, _, _⟩ := h
  obtain ⟨pf, cf, rfl, hpf⟩ := hI
  have cS := Lib.hid (fun W hA => pval_any (.slice p L.length c) W L hA (by omega) hw)
  rw [hE] at cS
  have cF := Lib.hid (fun W hA hI => pvalid_any (.slice p L.length c) W L (.slice pf f.length cf) f hA (by omega) hw hI (by omega))
  rw [hb] at cF
  have hP := Lib.hid (fmtP_len L f hb)
  have hJ := Lib.hid (fmtP_join L f)
  have hat' := Lib.hid (fun k (hk : k < L.length) => (atE_ok L k (hat k hk)))
  have hwf := Lib.hid (fun k (hk : k < L.length) => wf_at L hw k hk)
  have hin' := Lib.hid hin
  rw [hlen] at I0 cF ⊢
  obtain ⟨n, hn⟩ : ∃ n, L.length = n := ⟨_, rfl⟩
  have hn' := Lib.hid hn
  have hlen' := Lib.hid hlen
  rw [hn] at hn1 hn6 A0 O0 B0 I0 T0 cS cF hP hat' hin' hwf ⊢
  clear hw hpf hb hE hin hat hlen hn hkeep hT
  go_enter Tryz.func8, Tryz.ntmps8
  go_upto_region 1 with fail
  obtain ⟨b0, hb0⟩ : ∃ b, w.heap.size = b := ⟨_, rfl⟩
  rw [hb0] at O0 ⊢
  clear hb0
  generalize w.alloc (.cells #[.slice p n c] 25) = W0 at *
  have x0 := O0.out.2
  have cX := Lib.hid (cS.out W0 A0.out)
  clear cS
  go_wp2_with fail
  refine cX.out.mono ?_; rintro e W1 ⟨rfl, hB1⟩
  have B1 := Lib.hid (trans_b B0.out hB1)
  have A1 := Lib.hid (A0.out.below hB1)
  have I1 := Lib.hid (I0.out.below hB1)
  have O1 := Lib.hid (O0.out.keep hB1)
  have T1 := Lib.hid (hkeep'.out _ _ T0.out hB1)
  have cY := Lib.hid (cF.out W1 A1.out I1.out)
  clear hB1 cX cF x0 A0 I0 O0 B0 T0
  have x0 := O1.out.2
  go_wp2_with fail
  refine cY.out.mono ?_; rintro e W2 ⟨rfl, hB2⟩
  have B2 := Lib.hid (trans_b B1.out hB2)
  have A2 := Lib.hid (A1.out.below hB2)
  have I2 := Lib.hid (I1.out.below hB2)
  have O2 := Lib.hid (O1.out.keep hB2)
  have T2 := Lib.hid (hkeep'.out _ _ T1.out hB2)
  clear hB2 cY x0 A1 I1 O1 B1 T1
  have x0 := O2.out.2
  go_wp2_with fail
  clear x0
  go_loopw [7, 22] (fun x7 i wr => ∃ k : Nat, k ≤ n ∧ i = .int .i64 k ∧ Hid (SRow W2.heap.size wr x7 (partsV L f k)) ∧ Hid (Below W2.heap.size W2 wr)) (fun _ i _ => n - (RowKit.intOf i).toNat)
  case atStart => exact ⟨0, Nat.zero_le _, rfl, Lib.hid (srow_nil _ _), Lib.hid (Below.refl _ _)⟩
  case round =>
    obtain ⟨k, hk, rfl, hR, hB⟩ := hrel
    by_cases hlt : k < n
    · obtain ⟨p', c', hv, _, hp⟩ := A2.out.below hB.out
      obtain ⟨b, off, hpb, hc⟩ := hp (by rw [hn'.out]; omega)
      obtain rfl : p' = p := by cases hv; rfl
      subst hpb
      obtain ⟨y0, y1, ⟨uk, y2, hS⟩, y3, y4⟩ := hc k (by rw [hn'.out]; exact hlt)
      obtain ⟨pf2, cf2, hv2, hp2⟩ := I2.out.below hB.out
      obtain ⟨bf, of, hpb2, hcf⟩ := hp2 (by rw [hlen'.out, hn'.out]; omega)
      obtain rfl : pf2 = pf := by cases hv2; rfl
      subst hpb2
      have hz := hcf k (by rw [hlen'.out, hn'.out]; exact hlt)
      have hbf2 : bf < W2.heap.size := by
        obtain ⟨pf3, cf3, hv3, hp3⟩ := I2.out
        obtain ⟨b3, o3, hp3b, hc3⟩ := hp3 (by rw [hlen'.out, hn'.out]; omega)
        subst hp3b
        cases hv3
        exact World.block_lt_of_cell? _ _ (hc3 0 (by rw [hlen'.out, hn'.out]; omega))
      clear hv hp hc hv2 hp2 hcf
      obtain ⟨hi1, hi2⟩ := hin'.out k hlt
      obtain ⟨hnam, hatt⟩ := hat'.out k hlt
      have hvl := valT_len _ _ hatt hi1 hi2
      have hnl := name_len hnam
      have hal := alloc_at wr (.cells #[.string (tx (at' L k).nm), .int .i64 (at' L k).k, uk, .int .i64 (at' L k).lo, .int .i64 (at' L k).hi] 43)
      have B3 := Lib.hid (hB.out.alloc hB.out.size (.cells #[.string (tx (at' L k).nm), .int .i64 (at' L k).k, uk, .int .i64 (at' L k).lo, .int .i64 (at' L k).hi] 43))
      have K3 := Lib.hid (AAt.new wr (at' L k) uk 43)
      have S3 := Lib.hid (hS.below hal)
      have R3 := Lib.hid (hR.out.keep hal)
      have hne := Lib.hid (show ∀ g, u7.ownBlock = some g → W2.heap.size ≤ g ∧ g < wr.heap.size from hR.out.block)
      have T3 := Lib.hid (hkeep'.out _ _ (hkeep'.out _ _ T2.out hB.out) hal)
      have hz3 : (wr.alloc (.cells #[.string (tx (at' L k).nm), .int .i64 (at' L k).k, uk, .int .i64 (at' L k).lo, .int .i64 (at' L k).hi] 43)).cell? ⟨bf, of + k, none⟩ = some (.int .i64 (f.getD k 0)) := by
        rw [hal.cell (p := ⟨bf, of + k, none⟩) (World.block_lt_of_cell? _ _ hz)]; exact hz
      have cW := Lib.hid (fun W hS hT => pwritten_any (at' L k) uk (f.getD k 0) W hS (hwf.out k hlt) hatt hi1 hi2 hT (fun {w w'} => hkeep'.out w w'))
      have q1 : ∀ w, (Op.stringOp .add (tx (at' L k).nm) { data := #[61] }).run Tryz.prog w = .ok (.string (tx ((at' L k).nm ++ [61]))) w := fun w => tx_cat _ [61] _ w (by simp; omega)
      have q2 : ∀ w, (Op.stringOp .add (tx ((at' L k).nm ++ [61])) (tx (valT (at' L k) (f.getD k 0)))).run Tryz.prog w = .ok (.string (tx (oneT (at' L k) (f.getD k 0)))) w := fun w => by
        have := tx_cat ((at' L k).nm ++ [61]) (valT (at' L k) (f.getD k 0)) Tryz.prog w (by rw [List.length_append, List.length_singleton]; omega)
        rw [List.append_assoc] at this
        exact this
      have hsu := Lib.hid (partsV_succ L f k)
      have hpl := Lib.hid (partsV_len L f k)
      unfold AtV at cW
      obtain ⟨pk, ck, rfl, _, _⟩ := hS
      clear hal hatt hnam hi1 hi2 hvl hR hnl
      go_upto_region 10 with fail
      clear y0 y1 y2 y3 y4 hz
      obtain ⟨b4, hb4⟩ : ∃ b, wr.heap.size = b := ⟨_, rfl⟩
      rw [hb4] at K3 hne ⊢
      clear hb4
      generalize wr.alloc (.cells #[.string (tx (at' L k).nm), .int .i64 (at' L k).k, .slice pk (at' L k).ws.length ck, .int .i64 (at' L k).lo, .int .i64 (at' L k).hi] 43) = W3 at *
      obtain ⟨_, z0, z1, z2, z3, z4⟩ := K3.out
      generalize oneT (at' L k) (f.getD k 0) = one at *
      generalize partsV L f k = P at *
      generalize f.getD k 0 = z at *
      generalize valT (at' L k) z = tv at *
      generalize tx ((at' L k).nm ++ [61]) = t61 at *
      generalize tx (at' L k).nm = nm at *
      generalize (at' L k).k = kk at *
      generalize (at' L k).lo = lo at *
      generalize (at' L k).hi = hi at *
      generalize (at' L k).ws.length = nk at *
      have cX := Lib.hid (cW.out W3.drew S3.out (hkeep'.out _ _ T3.out (below_drewN (Below.refl _ _) 1)))
      clear S3 cW hkeep' T3 T2 A2 I2 O2
      have hb4 := K3.out.1
      have hbf := World.block_lt_of_cell? _ _ hz3
      go_region_held3 (fun w' => w'.cell? ⟨b4, 0, none⟩ = some (.string nm) ∧ w'.cell? ⟨b4, 1, none⟩ = some (.int .i64 kk) ∧ w'.cell? ⟨b4, 2, none⟩ = some (.slice pk nk ck) ∧ w'.cell? ⟨b4, 3, none⟩ = some (.int .i64 lo) ∧ w'.cell? ⟨b4, 4, none⟩ = some (.int .i64 hi) ∧ w'.cell? ⟨bf, of + k, none⟩ = some (.int .i64 z))
        (first
          | (go_keep; done)
          | exact held6 hb4 hbf z0 z1 z2 z3 z4 hz3 (trans_b (below_drewN (Below.refl W3.heap.size W3) 1) hB4)
          | ((try dsimp only); (repeat' apply And.intro) <;> (rw [hgrowA.cell_far _ (by have h8 := hB4.size; simp at h8 ⊢; omega) (fun e => by have h9 := hne.out _ e.symm; first | omega | (simp at h9; done) | (simp at h9; omega))]; simp [*])))
        (first
          | (go_at_call 20; (with_reducible refine cX.out.mono ?_); rintro e W4 ⟨rfl, hB4⟩)
          | (refine step_append_str (o := ⟨some 39, _, _, _, _, _⟩) (by rfl) _ _ (by rfl) W2.heap.size u7 P (by rfl) ?_ _ one (by rfl) ?_ ?_ ?_ ?_; (exact own_al (own_keep (show SRow W2.heap.size W3.drew u7 P from R3.out) hB4)); (focus (simp; done)); (rw [hpl.out]; omega); (have hs4 := hB4.size; have hs3 := B3.out.size; simp at hs4 ⊢; omega); intro vA wA hownA hgrowA))
      rename_i hh
      have hs4 := hB4.size
      have hs3 := B3.out.size
      simp at hs4
      have B5 := Lib.hid (show Below W2.heap.size W2 wA from ((B3.out.trans ((trans_b (below_drewN (Below.refl W3.heap.size W3) 1) hB4).mono hs3)).alloc (by omega) _).grown hgrowA (by simp; omega) (fun g hg => (hne.out g hg).1))
      have R5 := Lib.hid (show SRow W2.heap.size wA vA (partsV L f (k + 1)) from by rw [hsu.out]; exact hownA)
      clear hh hs4 hs3 hownA hgrowA hB4 hne R3 B3 z0 z1 z2 z3 z4 hz3 K3 cX
      go_wp2_with fail
      go_roundw
      case rel => exact ⟨k + 1, by omega, by go_num, R5, B5⟩
      case measure => simp [RowKit.intOf]; omega
    · obtain rfl : k = n := by omega
      have hJk := hJ.out k
      have hPk := hP.out k (Nat.le_refl _)
      have cJ := Lib.hid (pjoin_any u7 (partsV L f k) [59, 32] wr hR.out.at (by rw [partsV_len]; omega) (by rw [← hJk]; omega))
      rw [← hJk] at cJ
      obtain ⟨p7, c7, rfl, _, _⟩ := hR.out.at
      clear hJk hPk
      generalize fmtP L f k = R at *
      have hem := Lib.hid (show (tx [59, 32]) = { data := #[59, 32] } from rfl)
      rw [hem.out] at cJ
      go_wp2_with fail
      refine cJ.out.mono ?_; rintro e W4 ⟨rfl, hB4⟩
      have B4 := Lib.hid (trans_b B2.out (hB.out.trans (hB4.mono hB.out.size)))
      clear hB4 cJ
      go_wp2_with fail
      go_ret2
      exact ⟨rfl, B4.out⟩
set_option maxRecDepth 8000 in
set_option maxHeartbeats 8000000 in
theorem pfmt_bad (u : Value) (w : World) (L : List At) (vf : Value) (f : List Int) (h : AttsAt w u L) (hl : L.length ≤ 9223372036854775807) (hw : ∀ a ∈ L, AtWf a) (hI : IntsAt w vf f) (hlf : f.length ≤ 9223372036854775807) (hb : factsB L f = false) :
    Calls Tryz.prog 8 #[.agg #[u], vf] w (TextBe (fmtF L f) w) := by
  have B0 := Lib.hid (alloc_at w (.cells #[u] 25))
  have A0 := Lib.hid (h.below B0.out)
  have O0 := Lib.hid (OAt.new w u 25)
  have I0 := Lib.hid (hI.below B0.out)
  obtain ⟨p, c, rfl, _, _⟩ := h
  obtain ⟨pf, cf, rfl, hpf⟩ := hI
  have cS := Lib.hid (fun W hA => pval_any (.slice p L.length c) W L hA hl hw)
  have cF := Lib.hid (fun W hA hI => pvalid_any (.slice p L.length c) W L (.slice pf f.length cf) f hA hl hw hI hlf)
  rw [hb] at cF
  have hE1 := Lib.hid (fun (h : schE L ≠ 0) => show fmtF L f = ([], schE L) by unfold fmtF; rw [if_pos h])
  have hE2 := Lib.hid (fun (h : schE L = 0) => show fmtF L f = ([], 16) by unfold fmtF; rw [if_neg (by rw [h]; simp), if_pos hb])
  generalize fmtF L f = R at *
  generalize schE L = E at *
  generalize L.length = n at *
  generalize f.length = nf at *
  clear hw hpf hb
  go_enter Tryz.func8, Tryz.ntmps8
  go_upto_region 1 with fail
  obtain ⟨b0, hb0⟩ : ∃ b, w.heap.size = b := ⟨_, rfl⟩
  rw [hb0] at O0 ⊢
  clear hb0
  generalize w.alloc (.cells #[.slice p n c] 25) = W0 at *
  have x0 := O0.out.2
  have cX := Lib.hid (cS.out W0 A0.out)
  clear cS
  go_wp2_with fail
  refine cX.out.mono ?_; rintro e W1 ⟨rfl, hB1⟩
  have B1 := Lib.hid (trans_b B0.out hB1)
  have x1 := (O0.out.keep hB1).2
  have cY := Lib.hid (cF.out W1 (A0.out.below hB1) (I0.out.below hB1))
  clear hB1 cX x0 cF A0 I0 O0 B0
  by_cases hE0 : E = 0
  · have hR := Lib.hid (hE2.out hE0)
    subst hE0
    clear hE1 hE2
    go_wp2_with fail
    refine cY.out.mono ?_; rintro e W2 ⟨rfl, hB2⟩
    have B2 := Lib.hid (trans_b B1.out hB2)
    clear hB2
    go_wp2_with fail
    go_ret2
    exact ⟨by rw [hR.out]; rfl, B2.out⟩
  · have hR := Lib.hid (hE1.out hE0)
    have t1 : (E == 0) = false := by simpa using hE0
    clear hE1 hE2 hE0
    go_wp2_with fail
    go_ret2
    exact ⟨by rw [hR.out]; rfl, B1.out⟩
/-- The program's Format. -/
theorem pfmt_any (u : Value) (w : World) (L : List At) (vf : Value) (f : List Int) (h : AttsAt w u L) (hl : L.length ≤ 9223372036854775807) (hw : ∀ a ∈ L, AtWf a) (hI : IntsAt w vf f) (hlf : f.length ≤ 9223372036854775807) (hT : Lib.TabIs Tryz.prog w powName .u64 Lib.pow10Tab)
    (hkeep : ∀ {w w' : World}, Lib.TabIs Tryz.prog w powName .u64 Lib.pow10Tab → Below w.heap.size w w' → Lib.TabIs Tryz.prog w' powName .u64 Lib.pow10Tab) :
    Calls Tryz.prog 8 #[.agg #[u], vf] w (TextBe (fmtF L f) w) := by
  cases hb : factsB L f with
  | false => exact pfmt_bad u w L vf f h hl hw hI hlf hb
  | true =>
    rw [show fmtF L f = (fmtP L f L.length, 0) by unfold fmtF; rw [if_neg (by rw [(facts_ok L f hb).1]; simp), if_neg (by rw [hb]; simp)]]
    exact pfmt_good u w L vf f h hw hI hb hT hkeep
end Go.Proofs.YtdehldcgakdobaaGreatDoor.Sc
