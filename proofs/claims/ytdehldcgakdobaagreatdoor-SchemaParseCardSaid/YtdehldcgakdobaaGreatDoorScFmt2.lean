/- The reference's FormatFacts, of facts. -/
import Derived.Test.YtdehldcgakdobaaGreatDoorScFmt
namespace Go.Proofs.YtdehldcgakdobaaGreatDoor.Sc
open Go.RowKit Go.Lib Go.Proofs.YtdehldcgakdobaaGreatDoor.Bas Go.Proofs.YtdehldcgakdobaaGreatDoor.Cal Go.Proofs.YtdehldcgakdobaaGreatDoor.Lx
set_option linter.unusedVariables false

set_option maxRecDepth 8000 in
set_option maxHeartbeats 32000000 in
theorem rfmt_good (u : Value) (w : World) (L : List At) (vf : Value) (f : List Int) (h : AttsAt w u L) (hw : ∀ a ∈ L, AtWf a) (hI : IntsAt w vf f) (hb : factsB L f = true) :
    Calls Tryz.prog 13 #[.agg #[u], vf] w (TextBe (fmtP L f L.length, 0) w) := by
  have B0 := Lib.hid (alloc_at w (.cells #[u] 25))
  have A0 := Lib.hid (h.below B0.out)
  have O0 := Lib.hid (OAt.new w u 25)
  have I0 := Lib.hid (hI.below B0.out)
  obtain ⟨hE, hlen, hin⟩ := facts_ok L f hb
  obtain ⟨hn1, hn6, hat⟩ := schE_ok L hE
  obtain ⟨p, c, rfl, _, _⟩ := h
  obtain ⟨pf, cf, rfl, hpf⟩ := hI
  have cS := Lib.hid (rschema_any _ (w.alloc (.cells #[.slice p L.length c] 25)) L A0.out (by omega) hw)
  rw [hE] at cS
  have cF := Lib.hid (fun W hA hI => rfacts_any (.slice p L.length c) W L (.slice pf f.length cf) f hA (by omega) hw hI (by omega))
  rw [hb] at cF
  have hem := Lib.hid (show ({ data := #[] } : ByteArray) = tx [] from rfl)
  have hP := Lib.hid (fmtP_len L f hb)
  have hat' := Lib.hid (fun k (hk : k < L.length) => (atE_ok L k (hat k hk)))
  have hin' := Lib.hid hin
  rw [hlen] at I0 cF ⊢
  obtain ⟨n, hn⟩ : ∃ n, L.length = n := ⟨_, rfl⟩
  have hn' := Lib.hid hn
  have hlen' := Lib.hid hlen
  rw [hn] at hn1 hn6 A0 O0 B0 I0 cS cF hP hat' hin' ⊢
  clear hw hpf hb hE hin hat hlen hn
  obtain ⟨b0, hb0⟩ : ∃ b, w.heap.size = b := ⟨_, rfl⟩
  rw [hb0] at O0
  go_enter Tryz.func13, Tryz.ntmps13
  go_wp2_with fail
  refine cS.out.mono ?_; rintro e W1 ⟨rfl, hB1⟩
  have B1 := Lib.hid (trans_b B0.out hB1)
  have A1 := Lib.hid (A0.out.below hB1)
  have I1 := Lib.hid (I0.out.below hB1)
  have O1 := Lib.hid (O0.out.keep hB1)
  have x0 := O1.out.2
  have cX := Lib.hid (cF.out W1 A1.out I1.out)
  clear hB1 hb0 cS cF A0 I0 O0 B0
  go_wp2_with fail
  refine cX.out.mono ?_; rintro e W2 ⟨rfl, hB2⟩
  have B2 := Lib.hid (trans_b B1.out hB2)
  have A2 := Lib.hid (A1.out.below hB2)
  have I2 := Lib.hid (I1.out.below hB2)
  have O2 := Lib.hid (O1.out.keep hB2)
  clear hB2 cX A1 I1 O1 B1 x0
  go_wp2_with fail
  go_loopw [7, 8] (fun x7 x8 wr => ∃ k : Nat, k ≤ n ∧ x8 = .int .i64 k ∧ x7 = .string (tx (fmtP L f k)) ∧ Hid (Below W2.heap.size W2 wr)) (fun _ i _ => n - (RowKit.intOf i).toNat)
  case atStart => exact ⟨0, Nat.zero_le _, rfl, by rw [hem.out]; rfl, Lib.hid (Below.refl _ _)⟩
  case round =>
    obtain ⟨k, hk, rfl, rfl, hB⟩ := hrel
    have x0 := (O2.out.keep hB.out).2
    by_cases hlt : k < n
    · have hk64 : IntKind.i64.wrap ((k : Int) + 1) = (k : Int) + 1 := IntWalk.i64_in _ (by omega)
      obtain ⟨p', c', hv, _, hp⟩ := A2.out.below hB.out
      obtain ⟨b, off, hpb, hc⟩ := hp (by rw [hn'.out]; omega)
      obtain rfl : p' = p := by cases hv; rfl
      subst hpb
      obtain ⟨y0, y1, ⟨uk, y2, hS⟩, y3, y4⟩ := hc k (by rw [hn'.out]; exact hlt)
      have hS' := Lib.hid hS
      obtain ⟨pk, ck, rfl, _, _⟩ := hS
      obtain ⟨pf2, cf2, hv2, hp2⟩ := I2.out.below hB.out
      obtain ⟨bf, of, hpb2, hcf⟩ := hp2 (by rw [hlen'.out, hn'.out]; omega)
      obtain rfl : pf2 = pf := by cases hv2; rfl
      subst hpb2
      have hz := hcf k (by rw [hlen'.out, hn'.out]; exact hlt)
      clear hv hp hc hv2 hp2 hcf
      obtain ⟨hi1, hi2⟩ := hin'.out k hlt
      obtain ⟨hnam, hatt⟩ := hat'.out k hlt
      have hvl := valT_len _ _ hatt hi1 hi2
      have hol := oneT_len _ _ hnam hvl
      have hnl := name_len hnam
      have hpl := hP.out k (by omega)
      have hP2 : fmtP L f (k + 1) = fmtP L f k ++ sepT k ++ oneT (at' L k) (f.getD k 0) := rfl
      have hal := alloc_at wr (.cells #[.string (tx (at' L k).nm), .int .i64 (at' L k).k, .slice pk (at' L k).ws.length ck, .int .i64 (at' L k).lo, .int .i64 (at' L k).hi] 43)
      have B3 := Lib.hid (hB.out.alloc hB.out.size (.cells #[.string (tx (at' L k).nm), .int .i64 (at' L k).k, .slice pk (at' L k).ws.length ck, .int .i64 (at' L k).lo, .int .i64 (at' L k).hi] 43))
      have K3 := Lib.hid (AAt.new wr (at' L k) (.slice pk (at' L k).ws.length ck) 43)
      have S3 := Lib.hid (hS'.out.below hal)
      have hz3 : (wr.alloc (.cells #[.string (tx (at' L k).nm), .int .i64 (at' L k).k, .slice pk (at' L k).ws.length ck, .int .i64 (at' L k).lo, .int .i64 (at' L k).hi] 43)).cell? ⟨bf, of + k, none⟩ = some (.int .i64 (f.getD k 0)) := by
        rw [hal.cell (p := ⟨bf, of + k, none⟩) (World.block_lt_of_cell? _ _ hz)]; exact hz
      have hcase := Lib.hid (attE_ok _ hatt)
      have hdm : domV (at' L k) = if (at' L k).k = 1 then (0, ((at' L k).ws.length : Int) - 1) else if (at' L k).k = 2 then ((at' L k).lo, (at' L k).hi) else (0, 1) := rfl
      have hdm' := Lib.hid hdm
      have hP2' := Lib.hid hP2
      have hi' := Lib.hid (show _ ∧ _ from ⟨hi1, hi2⟩)
      have hol' := Lib.hid hol
      have hbb := Lib.hid (domV_bd _ hatt)
      clear hal hatt hnam hi1 hi2 hvl hdm hP2 hS' hol
      go_upto_region 11 with fail
      clear y0 y1 y2 y3 y4 hz
      obtain ⟨b4, hb4⟩ : ∃ b, wr.heap.size = b := ⟨_, rfl⟩
      rw [hb4] at K3 ⊢
      clear hb4
      generalize wr.alloc (.cells #[.string (tx (at' L k).nm), .int .i64 (at' L k).k, .slice pk (at' L k).ws.length ck, .int .i64 (at' L k).lo, .int .i64 (at' L k).hi] 43) = W3 at *
      obtain ⟨_, z0, z1, z2, z3, z4⟩ := K3.out
      clear x0
      have hsl : (sepT k).length ≤ 2 := by unfold sepT; split <;> simp
      have q1 : ∀ w, (Op.stringOp .add (tx (fmtP L f k)) { data := #[59, 32] }).run Tryz.prog w = .ok (.string (tx (fmtP L f k ++ [59, 32]))) w := fun w => tx_cat _ [59, 32] _ w (by simp; omega)
      have q2 : ∀ w, (Op.stringOp .add (tx (fmtP L f k ++ sepT k)) (tx (at' L k).nm)).run Tryz.prog w = .ok (.string (tx (fmtP L f k ++ sepT k ++ (at' L k).nm))) w := fun w => tx_cat _ _ _ w (by rw [List.length_append]; omega)
      have q3 : ∀ w, (Op.stringOp .add (tx (fmtP L f k ++ sepT k ++ (at' L k).nm)) { data := #[61] }).run Tryz.prog w = .ok (.string (tx (fmtP L f k ++ sepT k ++ (at' L k).nm ++ [61]))) w := fun w => tx_cat _ [61] _ w (by simp; omega)
      go_upto_if 31 with (fail)
      go_cut [7] (fun x7 wx => x7 = .string (tx (fmtP L f k ++ sepT k)) ∧ wx = W3)
      case first =>
        by_cases hk0 : k = 0
        · subst hk0
          go_wp2_with fail
          go_meet
          case rel => exact ⟨by rw [show sepT 0 = [] from rfl, List.append_nil], rfl⟩
        · have t1 : decide ((0 : Int) < (k : Int)) = true := by simp; omega
          have t2 : decide (0 < k) = true := by simp; omega
          have hsp := Lib.hid (show sepT k = [59, 32] by unfold sepT; rw [if_neg hk0])
          have hk1 : 0 < k := by omega
          clear hk0
          go_wp2_with fail
          go_meet
          case rel => exact ⟨by rw [hsp.out], rfl⟩
      case rest =>
        obtain ⟨rfl, rfl⟩ := hcut
        have hfin := Lib.hid (show fmtP L f (k + 1) = (fmtP L f k ++ sepT k ++ (at' L k).nm ++ [61]) ++ valT (at' L k) (f.getD k 0) by rw [hP2'.out]; unfold oneT; simp [List.append_assoc])
        have hql : (fmtP L f k ++ sepT k ++ (at' L k).nm ++ [61]).length ≤ 400 := by simp; omega
        have hvl2 : (valT (at' L k) (f.getD k 0)).length ≤ 60 := by have := hol'.out; unfold oneT at this; rw [List.length_append, List.length_append] at this; omega
        obtain ⟨g1, hg1⟩ : ∃ g, tx (fmtP L f k ++ sepT k) = g := ⟨_, rfl⟩
        obtain ⟨g2, hg2⟩ : ∃ g, tx (at' L k).nm = g := ⟨_, rfl⟩
        obtain ⟨g3, hg3⟩ : ∃ g, tx (fmtP L f k ++ sepT k ++ (at' L k).nm) = g := ⟨_, rfl⟩
        rw [hg1] at q2 ⊢
        rw [hg2] at q2 z0
        rw [hg3] at q2 q3
        have q4 := fun V => Lib.hid (fun (hV : V = valT (at' L k) (f.getD k 0)) (w : World) => show (Op.stringOp .add (tx (fmtP L f k ++ sepT k ++ (at' L k).nm ++ [61])) (tx V)).run Tryz.prog w = .ok (.string (tx (fmtP L f (k + 1)))) w by
          rw [hfin.out, hV]; exact tx_cat _ _ _ w (by omega))
        have q4' := Lib.hid q4
        generalize hQ : fmtP L f k ++ sepT k ++ (at' L k).nm ++ [61] = Q at *
        clear hg1 hg2 hg3 q1 hfin hP2' hpl hnl hsl hQ q4 hql hvl2 hol'
        generalize tx (at' L k).nm = g9 at *
        generalize tx Q = gQ at *
        obtain ⟨gN, hgN⟩ : ∃ g, tx (fmtP L f (k + 1)) = g := ⟨_, rfl⟩
        rw [hgN] at q4'
        have hgN' := Lib.hid hgN
        clear hgN
        rcases hcase.out with ⟨hk1, _, _, hw1, hw12, _, _⟩ | ⟨hk1, hw0, _⟩ | ⟨hk1, hw0, _⟩
        · have hd : domV (at' L k) = (0, ((at' L k).ws.length : Int) - 1) := hdm'.out.trans (if_pos hk1)
          have hi := hi'.out
          rw [hd] at hi
          have i1 : (0 : Int) ≤ f.getD k 0 := hi.1
          have i2 : f.getD k 0 ≤ ((at' L k).ws.length : Int) - 1 := hi.2
          obtain ⟨m, hm⟩ : ∃ m : Nat, f.getD k 0 = m := ⟨(f.getD k 0).toNat, by omega⟩
          have hV := q4'.out ((at' L k).ws.getD m [])
          have hV2 := hV.out (by unfold valT; rw [if_pos hk1, hm, Int.toNat_natCast])
          obtain ⟨pw, cw, hvw, _, hpw⟩ := S3.out
          obtain ⟨bw, ow, hpbw, hcw⟩ := hpw (by omega)
          obtain rfl : pw = pk := by cases hvw; rfl
          subst hpbw
          have hml : m < (at' L k).ws.length := by omega
          have hwd := hcw m hml
          rw [hm] at hz3
          rw [hk1] at z1
          generalize tx ((at' L k).ws.getD m []) = gw at *
          generalize (at' L k).ws.length = nw at *
          have t2 : decide ((m : Int) < (nw : Int)) = true := by simp; omega
          clear hi hd hV hvw hpw hcw hm i1 i2 hk1 hcase hdm' hi' q4' hbb
          go_wp2_with fail
          go_quiet (fail)
          go_wp2_with fail
          go_roundw
          case rel => exact ⟨k + 1, by omega, by go_num, by rw [hgN'.out], Lib.hid (below_drewN B3.out _)⟩
          case measure => simp [RowKit.intOf]; omega
        · have hd : domV (at' L k) = ((at' L k).lo, (at' L k).hi) := hdm'.out.trans ((if_neg (by rw [hk1]; decide)).trans (if_pos hk1))
          have hi := hi'.out
          have hb := hbb.out
          have hV := q4'.out (itoa (f.getD k 0))
          have hV2 := hV.out (by unfold valT; rw [if_neg (by rw [hk1]; decide), if_pos hk1])
          have cD := Lib.hid (fun w => decimal_any (f.getD k 0) w (by omega) (by omega))
          rw [hk1] at z1
          generalize tx (itoa (f.getD k 0)) = gw at *
          generalize f.getD k 0 = z at *
          clear hi hd hV hk1 hcase hdm' hi' q4' hbb hb
          go_wp2_with fail
          refine (cD.out _).mono ?_; rintro e W4 ⟨rfl, hB4⟩
          have B4 := Lib.hid (trans_b B3.out hB4)
          clear hB4 cD
          go_wp2_with fail
          go_roundw
          case rel => exact ⟨k + 1, by omega, by go_num, by rw [hgN'.out], B4⟩
          case measure => simp [RowKit.intOf]; omega
        · have hd : domV (at' L k) = (0, 1) := hdm'.out.trans ((if_neg (by rw [hk1]; decide)).trans (if_neg (by rw [hk1]; decide)))
          have hi := hi'.out
          rw [hd] at hi
          have i1 : (0 : Int) ≤ f.getD k 0 := hi.1
          have i2 : f.getD k 0 ≤ 1 := hi.2
          have hcs : f.getD k 0 = 1 ∨ f.getD k 0 = 0 := by omega
          rcases hcs with hm | hm
          · have hV := q4'.out [121, 101, 115]
            have hV2 : ∀ w, (Op.stringOp .add gQ { data := #[121, 101, 115] }).run Tryz.prog w = .ok (.string gN) w := hV.out (by unfold valT; rw [if_neg (by rw [hk1]; decide), if_neg (by rw [hk1]; decide), if_pos hm])
            rw [hm] at hz3
            rw [hk1] at z1
            clear hi hd hV hk1 hcase hdm' hi' q4' hbb hm i1 i2
            go_wp2_with fail
            go_roundw
            case rel => exact ⟨k + 1, by omega, by go_num, by rw [hgN'.out], B3⟩
            case measure => simp [RowKit.intOf]; omega
          · have hV := q4'.out [110, 111]
            have hV2 : ∀ w, (Op.stringOp .add gQ { data := #[110, 111] }).run Tryz.prog w = .ok (.string gN) w := hV.out (by unfold valT; rw [if_neg (by rw [hk1]; decide), if_neg (by rw [hk1]; decide), if_neg (by rw [hm]; decide)])
            rw [hm] at hz3
            rw [hk1] at z1
            clear hi hd hV hk1 hcase hdm' hi' q4' hbb hm i1 i2
            go_wp2_with fail
            go_roundw
            case rel => exact ⟨k + 1, by omega, by go_num, by rw [hgN'.out], B3⟩
            case measure => simp [RowKit.intOf]; omega
    · obtain rfl : k = n := by omega
      have B3 := Lib.hid (trans_b B2.out hB.out)
      go_wp2_with fail
      go_ret2
      exact ⟨rfl, B3.out⟩
/-- The reference's FormatFacts. -/
theorem rfmt_any (u : Value) (w : World) (L : List At) (vf : Value) (f : List Int) (h : AttsAt w u L) (hl : L.length ≤ 9223372036854775807) (hw : ∀ a ∈ L, AtWf a) (hI : IntsAt w vf f) (hlf : f.length ≤ 9223372036854775807) :
    Calls Tryz.prog 13 #[.agg #[u], vf] w (TextBe (fmtF L f) w) := by
  cases hb : factsB L f with
  | false => exact rfmt_bad u w L vf f h hl hw hI hlf hb
  | true =>
    rw [show fmtF L f = (fmtP L f L.length, 0) by unfold fmtF; rw [if_neg (by rw [(facts_ok L f hb).1]; simp), if_neg (by rw [hb]; simp)]]
    exact rfmt_good u w L vf f h hw hI hb
end Go.Proofs.YtdehldcgakdobaaGreatDoor.Sc
