/- The program's Parse. -/
import Derived.Test.YtdehldcgakdobaaGreatDoorScPRead
namespace Go.Proofs.YtdehldcgakdobaaGreatDoor.Sc
open Go.RowKit Go.Lib Go.Proofs.YtdehldcgakdobaaGreatDoor.Bas Go.Proofs.YtdehldcgakdobaaGreatDoor.Cal Go.Proofs.YtdehldcgakdobaaGreatDoor.Lx
set_option linter.unusedVariables false

/-- What Parse returns: the facts that have this text, or a refusal where there are none. -/
def ParseBe (L : List At) (T : List UInt8) (w : World) (e : Ending) (w' : World) : Prop :=
  (∃ u f, e = .returned (.tuple #[u, .int .i64 0]) ∧ Sol L T f ∧ Row 3 .i64 w.heap.size w' u f ∧ Below w.heap.size w w') ∨ (e = .returned (.tuple #[.slice none 0 0, .int .i64 5]) ∧ (∀ f, ¬ Sol L T f) ∧ Below w.heap.size w w')
theorem fmtP_ge (L : List At) (f : List Int) : ∀ k, k ≤ (fmtP L f k).length := by
  intro k
  induction k with
  | zero => exact Nat.zero_le _
  | succ k ih =>
    show k + 1 ≤ (fmtP L f k ++ sepT k ++ oneT (at' L k) (f.getD k 0)).length
    unfold oneT
    simp
    omega
/-- The parts between the separators. -/
def pieces (L : List At) (T : List UInt8) : List (List UInt8) := splitK [59, 32] 0 (min L.length (T.length + 1) - 1) T
theorem pieces_sol {L : List At} {T : List UInt8} {f : List Int} (h : Sol L T f) : pieces L T = partsV L f L.length := by
  have hge := fmtP_ge L f L.length
  rw [h.2] at hge
  unfold pieces
  rw [Nat.min_eq_left (by omega)]
  exact sol_parts h
/-- strings.SplitN. -/
theorem psplit_any (L : List At) (T : List UInt8) (w : World) (hE : EnvS w) (hn : 1 ≤ L.length) (hn6 : L.length ≤ 6) (hT : T.length ≤ 10000) :
    Calls Tryz.prog 22 #[.string (tx T), .string { data := #[59, 32] }, .int .i64 L.length] w (StrsBe (pieces L T) w) := by
  obtain ⟨m, hm⟩ := hE.mx
  have hz : (tx T).size = T.length := tx_size T
  have c := Tryz.strings_SplitN (tx T) { data := #[59, 32] } L.length m w (by rw [hz]; omega) hm (by decide) hn (by omega)
  rw [hz] at c
  have hd : (Lib.splitB { data := #[59, 32] } 0 (min L.length (T.length + 1) - 1) (tx T)).map (·.data.toList) = pieces L T := Lib.splitB_data _ 0 _ _
  have hle := Lib.splitB_length_le { data := #[59, 32] } 0 (min L.length (T.length + 1) - 1) (tx T)
  have hll : (pieces L T).length = (Lib.splitB { data := #[59, 32] } 0 (min L.length (T.length + 1) - 1) (tx T)).length := by rw [← hd]; simp
  generalize Lib.splitB { data := #[59, 32] } 0 (min L.length (T.length + 1) - 1) (tx T) = S at *
  refine c.mono ?_
  rintro e w' ⟨rfl, rfl⟩
  refine ⟨_, rfl, ⟨some ⟨w.heap.size, 0, none⟩, min L.length (T.length + 1), by rw [hll], ⟨by rw [hll]; omega, fun e => by cases e⟩, fun _ => ⟨_, _, rfl, fun j hj => ?_⟩⟩, alloc_at w _⟩
  rw [hll] at hj
  have h1 : (pieces L T).getD j [] = S[j].data.toList := by
    rw [← hd]; simp [List.getD_eq_getElem?_getD, hj]
  have h2 : tx ((pieces L T).getD j []) = S[j] := by
    rw [h1]; exact tx_bl _
  rw [h2, Nat.zero_add]
  have h3 : (Lib.cellsOf S (min L.length (T.length + 1)))[j]? = some (.string S[j]) := by
    unfold Lib.cellsOf
    rw [List.getElem?_toArray, List.getElem?_append_left (by simpa using hj)]
    simp [hj]
  simpa using h3
/-- strings.CutPrefix. -/
theorem pcut_any (s p : List UInt8) (w : World) : Calls Tryz.prog 23 #[.string (tx s), .string (tx p)] w fun e w' => e = .returned (.tuple #[.string (tx (Lib.trimPrefix s p)), .bool (Lib.hasPrefix s p)]) ∧ w = w' :=
  (Tryz.strings_CutPrefix (tx s) (tx p) w).mono fun e w' ⟨h1, h2⟩ => ⟨h1, h2.symm⟩
theorem cut_one (a : At) (z : Int) : Lib.hasPrefix (oneT a z) (a.nm ++ [61]) = true ∧ Lib.trimPrefix (oneT a z) (a.nm ++ [61]) = valT a z := by
  have h : Lib.hasPrefix (oneT a z) (a.nm ++ [61]) = true := by
    unfold Lib.hasPrefix oneT
    rw [← List.append_assoc]
    exact List.isPrefixOf_iff_prefix.2 ⟨_, rfl⟩
  refine ⟨h, ?_⟩
  unfold Lib.trimPrefix
  rw [if_pos h]
  unfold oneT
  rw [← List.append_assoc, List.drop_left]
theorem cut_back (a : At) (s : List UInt8) (z : Int) (h : Lib.hasPrefix s (a.nm ++ [61]) = true) (hv : valT a z = Lib.trimPrefix s (a.nm ++ [61])) : s = oneT a z := by
  unfold Lib.trimPrefix at hv
  rw [if_pos h] at hv
  unfold Lib.hasPrefix at h
  obtain ⟨t, ht⟩ := List.isPrefixOf_iff_prefix.1 h
  rw [← ht, List.drop_left] at hv
  unfold oneT
  rw [hv, ← List.append_assoc, ht]
theorem trim_len (s p : List UInt8) : (Lib.trimPrefix s p).length ≤ s.length := by
  unfold Lib.trimPrefix
  split
  · rw [List.length_drop]; omega
  · exact Nat.le_refl _
theorem sol_of {L : List At} {T : List UInt8} {f : List Int} (h0 : schE L = 0) (hl : (pieces L T).length = L.length) (hf : f.length = L.length) (h : ∀ j, j < L.length → (pieces L T).getD j [] = oneT (at' L j) (f.getD j 0) ∧ (domV (at' L j)).1 ≤ f.getD j 0 ∧ f.getD j 0 ≤ (domV (at' L j)).2) : Sol L T f := by
  refine ⟨decide_eq_true ⟨h0, hf, fun i hi => (h i hi).2⟩, ?_⟩
  rw [fmtP_join]
  have : partsV L f L.length = pieces L T := by
    apply List.ext_getElem (by rw [partsV_len, hl])
    intro i h1 h2
    have hi : i < L.length := by rw [partsV_len] at h1; exact h1
    have a := (h i hi).1
    have b := partsV_at L f L.length i hi
    rw [List.getD_eq_getElem?_getD, List.getElem?_eq_getElem h2] at a
    rw [List.getD_eq_getElem?_getD, List.getElem?_eq_getElem h1] at b
    exact b.trans a.symm
  rw [this]
  exact join_split _ T
theorem pieces_len (L : List At) (T : List UInt8) : ∀ j, ((pieces L T).getD j []).length ≤ T.length := by
  have key : ∀ (k : Nat) (s : List UInt8) (p : List UInt8), p ∈ splitK [59, 32] 0 k s → p.length ≤ s.length := by
    intro k
    induction k with
    | zero => intro s p hp; rw [List.mem_singleton.1 hp]; exact Nat.le_refl _
    | succ k ih =>
      intro s p hp
      unfold splitK at hp
      split at hp
      · rw [List.mem_singleton.1 hp]; exact Nat.le_refl _
      · rcases List.mem_cons.1 hp with h | h
        · rw [h, List.length_take]; omega
        · have := ih _ p h
          rw [List.length_drop] at this
          omega
  intro j
  rw [List.getD_eq_getElem?_getD]
  by_cases hj : j < (pieces L T).length
  · rw [List.getElem?_eq_getElem hj]
    exact key _ T _ (List.getElem_mem hj)
  · rw [List.getElem?_eq_none (by omega)]; exact Nat.zero_le _
set_option maxRecDepth 8000 in
set_option maxHeartbeats 32000000 in
theorem pparse_any (u : Value) (L : List At) (T : List UInt8) (w : World) (hE : EnvS w) (h : AttsAt w u L) (hw : ∀ a ∈ L, AtWf a) (hs : schE L = 0) (hT : T.length ≤ 9000) :
    Calls Tryz.prog 9 #[.agg #[u], .string (tx T)] w (ParseBe L T w) := by
  have B0 := Lib.hid (alloc_at w (.cells #[u] 25))
  have A0 := Lib.hid (h.below B0.out)
  have O0 := Lib.hid (OAt.new w u 25)
  have E0 := Lib.hid (hE.keep B0.out)
  obtain ⟨hn1, hn6, hat⟩ := schE_ok L hs
  obtain ⟨p, c, rfl, _, _⟩ := h
  have cS := Lib.hid (fun W hA => pval_any (.slice p L.length c) W L hA (by omega) hw)
  rw [hs] at cS
  have cP := Lib.hid (fun W hE => psplit_any L T W hE hn1 hn6 (by omega))
  have hat' := Lib.hid (fun k (hk : k < L.length) => (atE_ok L k (hat k hk)))
  have hwf := Lib.hid (fun k (hk : k < L.length) => wf_at L hw k hk)
  have hsol := Lib.hid (fun f (h : Sol L T f) => pieces_sol h)
  have hof := Lib.hid (fun hl f hf h => sol_of (L := L) (T := T) (f := f) hs hl hf h)
  have hpl := Lib.hid (pieces_len L T)
  have hT' := Lib.hid hT
  obtain ⟨n, hn⟩ : ∃ n, L.length = n := ⟨_, rfl⟩
  have hn' := Lib.hid hn
  rw [hn] at hn1 hn6 A0 O0 B0 E0 cS cP hat' hwf hof ⊢
  generalize pieces L T = PS at *
  clear hw hs hat hn hE
  obtain ⟨s, hss⟩ : ∃ s, tx T = s := ⟨_, rfl⟩
  rw [hss] at cP ⊢
  clear hss
  go_enter Tryz.func9, Tryz.ntmps9
  go_upto_region 1 with fail
  obtain ⟨b0, hb0⟩ : ∃ b, w.heap.size = b := ⟨_, rfl⟩
  rw [hb0] at O0 ⊢
  clear hb0
  generalize w.alloc (.cells #[.slice p n c] 25) = W0 at *
  have x0 := O0.out.2
  have cX := Lib.hid (cS.out W0 A0.out)
  clear cS
  go_wp2_with fail
  refine cX.out.mono ?_; rintro e W1 ⟨rfl, hB1⟩
  have B1 := Lib.hid (trans_b B0.out hB1)
  have A1 := Lib.hid (A0.out.below hB1)
  have O1 := Lib.hid (O0.out.keep hB1)
  have E1 := Lib.hid (E0.out.keep hB1)
  have cY := Lib.hid (cP.out W1 E1.out)
  clear hB1 cX cP x0 A0 O0 B0 E0
  have x0 := O1.out.2
  go_wp2_with fail
  refine cY.out.mono ?_; rintro e W2 ⟨vp, rfl, hSp, hB2⟩
  have P2 := Lib.hid hSp
  obtain ⟨pp, cp, rfl, _, _⟩ := hSp
  have B2 := Lib.hid (trans_b B1.out hB2)
  have A2 := Lib.hid (A1.out.below hB2)
  have O2 := Lib.hid (O1.out.keep hB2)
  have E2 := Lib.hid (E1.out.keep hB2)
  clear hB2 cY x0 A1 O1 B1 E1
  have x0 := O2.out.2
  obtain ⟨m, hm⟩ : ∃ m, PS.length = m := ⟨_, rfl⟩
  have hm' := Lib.hid hm
  rw [hm] at P2 ⊢
  by_cases hmn : m = n
  · subst hmn
    have hof' := Lib.hid (hof.out hm)
    clear hof hm
    go_wp2_with fail
    clear x0
    go_loopw [8, 34] (fun x8 i wr => ∃ (k : Nat) (f : List Int), k ≤ m ∧ i = .int .i64 k ∧ f.length = k ∧ Hid (Row 3 .i64 W2.heap.size wr x8 f) ∧ Hid (Below W2.heap.size W2 wr) ∧ Hid (∀ j, j < k → PS.getD j [] = oneT (at' L j) (f.getD j 0) ∧ (domV (at' L j)).1 ≤ f.getD j 0 ∧ f.getD j 0 ≤ (domV (at' L j)).2)) (fun _ i _ => m - (RowKit.intOf i).toNat)
    case atStart => exact ⟨0, [], Nat.zero_le _, rfl, rfl, Lib.hid (World.ownsRow_nil _ _ _ 1), Lib.hid (Below.refl _ _), Lib.hid (fun j hj => absurd hj (Nat.not_lt_zero _))⟩
    case round =>
      obtain ⟨k, f, hk, rfl, hf, hR, hB, hZ⟩ := hrel
      by_cases hlt : k < m
      · obtain ⟨p', c', hv, _, hp⟩ := A2.out.below hB.out
        obtain ⟨b, off, hpb, hc⟩ := hp (by rw [hn'.out]; omega)
        obtain rfl : p' = p := by cases hv; rfl
        subst hpb
        obtain ⟨y0, y1, ⟨uk, y2, hS⟩, y3, y4⟩ := hc k (by rw [hn'.out]; exact hlt)
        obtain ⟨pp2, cp2, hv2, _, hp2⟩ := P2.out.below hB.out
        obtain ⟨bp, op, hpb2, hcp⟩ := hp2 (by rw [hm'.out]; omega)
        obtain rfl : pp2 = pp := by cases hv2; rfl
        subst hpb2
        have hz := hcp k (by rw [hm'.out]; exact hlt)
        clear hv hp hc hv2 hp2 hcp
        obtain ⟨hnam, hatt⟩ := hat'.out k hlt
        have hnl := name_len hnam
        have hal := alloc_at wr (.cells #[.string (tx (at' L k).nm), .int .i64 (at' L k).k, uk, .int .i64 (at' L k).lo, .int .i64 (at' L k).hi] 43)
        have B3 := Lib.hid (hB.out.alloc hB.out.size (.cells #[.string (tx (at' L k).nm), .int .i64 (at' L k).k, uk, .int .i64 (at' L k).lo, .int .i64 (at' L k).hi] 43))
        have K3 := Lib.hid (AAt.new wr (at' L k) uk 43)
        have S3 := Lib.hid (hS.below hal)
        have R3 := Lib.hid (hR.out.keep hal)
        have E3 := Lib.hid ((E2.out.keep hB.out).keep hal)
        have hz3 : (wr.alloc (.cells #[.string (tx (at' L k).nm), .int .i64 (at' L k).k, uk, .int .i64 (at' L k).lo, .int .i64 (at' L k).hi] 43)).cell? ⟨bp, op + k, none⟩ = some (.string (tx (PS.getD k []))) := by
          rw [hal.cell (p := ⟨bp, op + k, none⟩) (World.block_lt_of_cell? _ _ hz)]; exact hz
        have hpk := hpl.out k
        have htl := trim_len (PS.getD k []) ((at' L k).nm ++ [61])
        have hTT := hT'.out
        have cC := Lib.hid (fun W => pcut_any (PS.getD k []) ((at' L k).nm ++ [61]) W)
        have cR := Lib.hid (fun W hE hS => pread_any (at' L k) uk (Lib.trimPrefix (PS.getD k []) ((at' L k).nm ++ [61])) W hE hS (hwf.out k hlt) hatt (by omega))
        have hone := Lib.hid (cut_one (at' L k))
        have hback := Lib.hid (cut_back (at' L k) (PS.getD k []))
        have hpart := Lib.hid (fun g (h : Sol L T g) => show PS.getD k [] = oneT (at' L k) (g.getD k 0) ∧ (domV (at' L k)).1 ≤ g.getD k 0 ∧ g.getD k 0 ≤ (domV (at' L k)).2 from ⟨by rw [hsol.out g h]; exact partsV_at L g _ k (by rw [hn'.out]; exact hlt), (facts_ok L g h.1).2.2 k (by rw [hn'.out]; exact hlt)⟩)
        have q1 : ∀ w, (Op.stringOp .add (tx (at' L k).nm) { data := #[61] }).run Tryz.prog w = .ok (.string (tx ((at' L k).nm ++ [61]))) w := fun w => tx_cat _ [61] _ w (by simp; omega)
        have hk64 : IntKind.i64.wrap ((k : Int) + 1) = (k : Int) + 1 := IntWalk.i64_in _ (by omega)
        unfold AtV at cR
        obtain ⟨pk, ck, rfl, _, _⟩ := hS
        have hkm : (k : Int) < (m : Int) := by omega
        clear hal hatt hnam hR hnl hpk htl hTT
        go_upto_region 11 with fail
        clear y0 y1 y2 y3 y4 hz
        obtain ⟨b4, hb4⟩ : ∃ b, wr.heap.size = b := ⟨_, rfl⟩
        rw [hb4] at K3 ⊢
        clear hb4
        generalize wr.alloc (.cells #[.string (tx (at' L k).nm), .int .i64 (at' L k).k, .slice pk (at' L k).ws.length ck, .int .i64 (at' L k).lo, .int .i64 (at' L k).hi] 43) = W3 at *
        obtain ⟨_, z0, z1, z2, z3, z4⟩ := K3.out
        have hst := Lib.hid (show ∀ j, j < k → PS.getD j [] = oneT (at' L j) (f.getD j 0) ∧ (domV (at' L j)).1 ≤ f.getD j 0 ∧ f.getD j 0 ≤ (domV (at' L j)).2 from hZ.out)
        clear hZ
        obtain ⟨hp, hhp⟩ : ∃ q, Lib.hasPrefix (PS.getD k []) ((at' L k).nm ++ [61]) = q := ⟨_, rfl⟩
        obtain ⟨rt, hrt⟩ : ∃ q, Lib.trimPrefix (PS.getD k []) ((at' L k).nm ++ [61]) = q := ⟨_, rfl⟩
        have hhp' := Lib.hid hhp
        have hrt' := Lib.hid hrt
        rw [hhp, hrt] at cC
        rw [hrt] at cR
        clear hhp hrt
        obtain ⟨sk, hsk⟩ : ∃ q, tx (PS.getD k []) = q := ⟨_, rfl⟩
        rw [hsk] at cC hz3
        obtain ⟨nm, hnm⟩ : ∃ q, tx (at' L k).nm = q := ⟨_, rfl⟩
        rw [hnm] at z0 q1 cR
        clear hsk
        have hnm' := Lib.hid hnm
        clear hnm
        generalize tx ((at' L k).nm ++ [61]) = t61 at *
        generalize hws : (at' L k).ws.length = nk at *
        have hws' := Lib.hid hws
        clear hws
        go_cut [11, 12] (fun x11 x12 wx => x11 = .string (tx rt) ∧ x12 = .bool hp ∧ ∃ nd, wx = W3.drewN nd)
        case first =>
          go_region_with (refine (cC.out _).mono ?_; rintro e w' ⟨rfl, rfl⟩)
          all_goals
            go_wp2_with fail
            go_meet
            case rel => exact ⟨rfl, rfl, 1, rfl⟩
        case rest =>
          obtain ⟨rfl, rfl, nd, rfl⟩ := hcut
          have cX := Lib.hid (cR.out (W3.drewN nd) (E3.out.drewN nd) S3.out)
          have hB4 := Lib.hid (below_drewN B3.out nd)
          have R4 := Lib.hid (R3.out.drewN nd)
          clear cC cR hz3 q1
          go_wp2_with fail
          refine cX.out.mono ?_; rintro e W5 ⟨z, ok, rfl, hB5, hyes, hno⟩
          have B5 := Lib.hid (hB4.out.trans (hB5.mono hB4.out.size))
          have R5 := Lib.hid (R4.out.keep hB5)
          have Hy := Lib.hid hyes
          have Hn := Lib.hid hno
          clear hyes hno hB5 cX R4 R3 hB4 B3 z0 z1 z2 z3 z4 S3 E3
          by_cases hg : hp = true ∧ ok = true
          · obtain ⟨rfl, rfl⟩ := hg
            have hro := Lib.hid (Hy.out rfl)
            obtain ⟨i0, hi, hz0, hz1, hz2⟩ := info_parts info_int
            have hf6 : f.length ≤ 6 := by omega
            have hsz5 := B5.out.size
            clear Hy Hn hpart hone hsol
            go_wp2_with (at_builtin; refine wpList_append_one rfl (.tmp 62) (.tmp 64) 22 rfl W2.heap.size 3 .i64 i0 8 Tryz.underlying22 hi hz0 hz1 hz2 (by omega) u8 f rfl R5.out z rfl (by omega) hsz5 ?_; intro v' w6 hown hgrow; refine Hid.out ?_)
            refine Lib.hid ?_
            have R6 := Lib.hid hown
            have B6 := Lib.hid (B5.out.grown hgrow hsz5 (fun g hg => (R5.out.block g hg).1))
            have hst2 := Lib.hid (show ∀ j, j < k + 1 → PS.getD j [] = oneT (at' L j) ((f ++ [z]).getD j 0) ∧ (domV (at' L j)).1 ≤ (f ++ [z]).getD j 0 ∧ (f ++ [z]).getD j 0 ≤ (domV (at' L j)).2 from fun j hj => by
              by_cases e : j = k
              · subst e
                have e1 : (f ++ [z]).getD j 0 = z := by
                  rw [List.getD_eq_getElem?_getD, List.getElem?_append_right (by omega), hf]; simp
                rw [e1]
                exact ⟨hback.out z hhp'.out (by rw [hro.out.2.2, hrt'.out]), hro.out.1, hro.out.2.1⟩
              · have e1 : (f ++ [z]).getD j 0 = f.getD j 0 := by
                  rw [List.getD_eq_getElem?_getD, List.getElem?_append_left (by omega), ← List.getD_eq_getElem?_getD]
                rw [e1]
                exact hst.out j (by omega))
            have hl2 : (f ++ [z]).length = k + 1 := by rw [List.length_append, hf]; rfl
            clear hown hgrow hst hsz5 hf6 hf hi hz0 hz1 hz2
            go_wp2_with fail
            go_roundw
            case rel => exact ⟨k + 1, f ++ [z], by omega, by go_num, hl2, R6, B6, hst2⟩
            case measure => simp [RowKit.intOf]; omega
          · have hnone := Lib.hid (show ∀ g, ¬ Sol L T g from fun g hs => by
              obtain ⟨e1, e2, e3⟩ := hpart.out g hs
              have e4 := hhp'.out
              have e5 := hrt'.out
              rw [e1, (hone.out (g.getD k 0)).1] at e4
              rw [e1, (hone.out (g.getD k 0)).2] at e5
              exact hg ⟨e4.symm, Hn.out ⟨g.getD k 0, e2, e3, e5⟩⟩)
            have B6 := Lib.hid (trans_b B2.out B5.out)
            have hfin := Lib.hid (show ParseBe L T w (.returned (.tuple #[.slice none 0 0, .int .i64 5])) W5 from .inr ⟨rfl, hnone.out, B6.out⟩)
            have hcs : hp = false ∨ (hp = true ∧ ok = false) := by
              cases hp
              · exact .inl rfl
              · cases ok
                · exact .inr ⟨rfl, rfl⟩
                · exact absurd ⟨rfl, rfl⟩ hg
            clear hg Hy Hn hnone hpart hone hsol
            rcases hcs with rfl | ⟨rfl, rfl⟩
            · go_wp2_with fail
              go_ret2
              exact hfin.out
            · go_wp2_with fail
              go_ret2
              exact hfin.out
      · obtain rfl : k = m := by omega
        have hS := Lib.hid (hof'.out f hf (fun j hj => hZ.out j (by omega)))
        have B6 := Lib.hid (trans_b B2.out hB.out)
        have hfin := Lib.hid (show ParseBe L T w (.returned (.tuple #[u8, .int .i64 0])) wr from .inl ⟨u8, f, rfl, hS.out, hR.out.mono B2.out.size, B6.out⟩)
        go_wp2_with fail
        go_ret2
        exact hfin.out
  · have hnone := Lib.hid (show ∀ g, ¬ Sol L T g from fun g hs => by
      have := hsol.out g hs
      rw [this, partsV_len, hn'.out] at hm
      exact hmn hm.symm)
    have hfin := Lib.hid (show ParseBe L T w (.returned (.tuple #[.slice none 0 0, .int .i64 5])) W2 from .inr ⟨rfl, hnone.out, B2.out⟩)
    have t1 : ((m : Int) == (n : Int)) = false := by simp; omega
    have t2 : (m == n) = false := by simpa using hmn
    clear hm hof hnone
    go_wp2_with fail
    try any_goals (exfalso; omega; done)
    go_ret2
    exact hfin.out
end Go.Proofs.YtdehldcgakdobaaGreatDoor.Sc
