/- The reference's Same. The reference's Decimal. The reference's text of a token. Package lexer: Join's walk. The reference's Join. -/
import Derived.Test.YtjmipikahaoblaaGreatDoorZ04
import Derived.Test.YtjmipikahaoblaaGreatDoorZ05
import Derived.Test.YtjmipikahaoblaaGreatDoorZ02
import Derived.Lib.ItoaNum
import Derived.Lib.ItoaLen
import Derived.Test.YtjmipikahaoblaaGreatDoorZ10
import Derived.Test.YtjmipikahaoblaaGreatDoorZ12
namespace Go.Proofs.YtjmipikahaoblaaGreatDoor.Syn
open Go.RowKit Go.Lib Go.Proofs.YtjmipikahaoblaaGreatDoor.Bas Go.Proofs.YtjmipikahaoblaaGreatDoor.Cal Go.Proofs.YtjmipikahaoblaaGreatDoor.Lx Go.Proofs.YtjmipikahaoblaaGreatDoor.Sc
set_option linter.unusedVariables false

theorem Fo.ext_get {F G : Fo} (h : F.len = G.len) (h2 : ∀ j, j < F.len → F.get j = G.get j) : F = G := by
  have hl : F.toL = G.toL := by
    apply List.ext_getElem (by rw [Fo.toL_length, Fo.toL_length, h])
    intro i h3 h4
    have := h2 i (by rw [← Fo.toL_length]; exact h3)
    simpa [Fo.get, List.getD_eq_getElem?_getD, h3, h4] using this
  rw [← Fo.ofL_toL F, hl, Fo.ofL_toL]
theorem ex_eq (e f : Ex) : e = f ↔ e.d.op = f.d.op ∧ e.d.nm = f.d.nm ∧ e.d.lo = f.d.lo ∧ e.d.hi = f.d.hi ∧ e.d.ws = f.d.ws ∧ e.kids = f.kids := by
  obtain ⟨⟨o1, n1, s1, l1, h1⟩, k1⟩ := e
  obtain ⟨⟨o2, n2, s2, l2, h2⟩, k2⟩ := f
  simp only [Ex.mk.injEq, Nd.mk.injEq]
  constructor
  · rintro ⟨⟨a, b, c, d, e⟩, f⟩; exact ⟨a, b, d, e, c, f⟩
  · rintro ⟨a, b, d, e, c, f⟩; exact ⟨⟨a, b, c, d, e⟩, f⟩
set_option maxRecDepth 8000 in
set_option maxHeartbeats 16000000 in
theorem rsame_any : ∀ (n : Nat) (e f : Ex) (v u : Value) (w : World), e.size ≤ n → ExAt w v e → ExAt w u f → ExWf e → ExWf f → Calls Tryz.prog 22 #[v, u] w (BB (decide (e = f)) w) := by
  intro n
  induction n with
  | zero => intro e f v u w h; have := size_pos e; omega
  | succ n ih =>
    intro e f v u w hsz h1 h2 hw1 hw2
    obtain ⟨ue, ae, rfl, hu, hF⟩ := h1
    obtain ⟨uf, af, rfl, hu', hG⟩ := h2
    have B1 := Lib.hid (alloc_at w (xo e.d ue ae))
    have B2 := Lib.hid (alloc_at (w.alloc (xo e.d ue ae)) (xo f.d uf af))
    have B0 := Lib.hid (trans_b B1.out B2.out)
    have X1 := Lib.hid ((XAt.new w e.d ue ae).keep B2.out)
    have X2 := Lib.hid (XAt.new (w.alloc (xo e.d ue ae)) f.d uf af)
    rw [size_alloc1] at X2
    have F0 := Lib.hid (hF.below B0.out)
    have G0 := Lib.hid (hG.below B0.out)
    have cW := Lib.hid (rsamew_any ue uf e.d.ws f.d.ws _ (hu.below B0.out).at (hu'.below B0.out).at hw1.1.1.2.1 hw2.1.1.2.1)
    have hS := Lib.hid (show ∀ k, k < e.kids.len → (e.kids.get k).size ≤ n from fun k hk => by have := Fo.size_get_le e.kids k hk; unfold Ex.size at hsz; omega)
    have hW1 := Lib.hid (fun k (hk : k < e.kids.len) => FoWf.get e.kids k hw1.2.2 hk)
    have hW2 := Lib.hid (fun k (hk : k < f.kids.len) => FoWf.get f.kids k hw2.2.2 hk)
    have hN := Lib.hid (show ¬ (e.d.op = f.d.op ∧ e.d.nm = f.d.nm ∧ e.d.lo = f.d.lo ∧ e.d.hi = f.d.hi ∧ e.d.ws = f.d.ws ∧ e.kids = f.kids) → decide (e = f) = false from fun h => decide_eq_false (fun hh => h ((ex_eq e f).1 hh)))
    have hY := Lib.hid (show e.d.op = f.d.op → e.d.nm = f.d.nm → e.d.lo = f.d.lo → e.d.hi = f.d.hi → e.d.ws = f.d.ws → e.kids = f.kids → decide (e = f) = true from fun a b c d g i => decide_eq_true ((ex_eq e f).2 ⟨a, b, c, d, g, i⟩))
    have hlen1 : e.kids.len ≤ 9223372036854775807 := hw1.2.1
    have hlen2 : f.kids.len ≤ 9223372036854775807 := hw2.2.1
    obtain ⟨pu, cu, rfl, _, _⟩ := hu
    obtain ⟨pu', cu', rfl, _, _⟩ := hu'
    obtain ⟨p, c, rfl, _, _⟩ := hF
    obtain ⟨p', c', rfl, _, _⟩ := hG
    clear hsz hw1 hw2
    unfold exV
    generalize decide (e = f) = R at *
    obtain ⟨d1, F⟩ := e
    obtain ⟨d2, G⟩ := f
    simp only at B1 B2 B0 X1 X2 F0 G0 cW hS hW1 hW2 hN hY hlen1 hlen2 ⊢
    obtain ⟨m1, hm1⟩ : ∃ m, F.len = m := ⟨_, rfl⟩
    obtain ⟨m2, hm2⟩ : ∃ m, G.len = m := ⟨_, rfl⟩
    have hm1' := Lib.hid hm1
    have hm2' := Lib.hid hm2
    rw [hm1] at B1 B2 B0 X1 X2 F0 G0 cW hS hW1 hlen1 ⊢
    rw [hm2] at B2 B0 X1 X2 F0 G0 cW hW2 hlen2 ⊢
    clear hm1 hm2
    go_enter Tryz.func22, Tryz.ntmps22
    go_upto_region 1 with fail
    obtain ⟨b0, hb0⟩ : ∃ b, w.heap.size = b := ⟨_, rfl⟩
    rw [hb0] at X1 X2 ⊢
    clear hb0
    generalize (w.alloc (xo d1 (.slice pu d1.ws.length cu) (.slice p m1 c))).alloc (xo d2 (.slice pu' d2.ws.length cu') (.slice p' m2 c')) = W0 at *
    clear B1 B2
    have tt := Lib.hid (tx_test d1.nm d2.nm)
    obtain ⟨_, y0, y1, y2, y3, y4, y5⟩ := X1.out
    obtain ⟨_, z0, z1, z2, z3, z4, z5⟩ := X2.out
    by_cases h1 : d1.op = d2.op
    · have t1 : (d1.op != d2.op) = false := by simp [h1]
      have t1' : (d1.op == d2.op) = true := by simp [h1]
      have h1' := Lib.hid h1
      by_cases h2 : d1.nm = d2.nm
      · have t2 := tt.out
        rw [decide_eq_true h2] at t2
        have h2' := Lib.hid h2
        by_cases h3 : d1.lo = d2.lo
        · have t3 : (d1.lo != d2.lo) = false := by simp [h3]
          have t3' : (d1.lo == d2.lo) = true := by simp [h3]
          have h3' := Lib.hid h3
          by_cases h4 : d1.hi = d2.hi
          · have t4 : (d1.hi != d2.hi) = false := by simp [h4]
            have t4' : (d1.hi == d2.hi) = true := by simp [h4]
            have h4' := Lib.hid h4
            by_cases h5 : d1.ws = d2.ws
            · have h5' := Lib.hid h5
              rw [decide_eq_true h5] at cW
              by_cases h6 : m1 = m2
              · have hY2 := Lib.hid (fun hk => hY.out h1 h2 h3 h4 h5 hk)
                have hNo := Lib.hid (show ∀ j, F.get j ≠ G.get j → R = false from fun j hj => hN.out (fun hh => hj (by rw [hh.2.2.2.2.2])))
                have t6 : ((m1 : Int) != (m2 : Int)) = false := by simp; omega
                have t6' : ((m1 : Int) == (m2 : Int)) = true := by simp; omega
                clear h1 h2 h3 h4 h5 hN hY
                subst h6
                generalize tx d1.nm = s1 at *
                generalize tx d2.nm = s2 at *
                generalize d1.ws.length = q1 at *
                generalize d2.ws.length = q2 at *
                go_wp2_with fail
                refine cW.out.mono ?_; rintro e w1 ⟨rfl, nd, rfl⟩
                go_wp2_with fail
                go_loopw [5] (fun x9 wr => ∃ (k : Nat), k ≤ m1 ∧ x9 = .int .i64 k ∧ Hid (∀ j, j < k → F.get j = G.get j) ∧ Hid (Below W0.heap.size W0 wr)) (fun x9 _ => m1 - (RowKit.intOf x9).toNat)
                case atStart => exact ⟨0, Nat.zero_le _, rfl, Lib.hid (fun j hj => absurd hj (Nat.not_lt_zero _)), Lib.hid (below_drewN (Below.refl _ _) _)⟩
                case round =>
                  obtain ⟨k, hk, rfl, hZ, hB⟩ := hrel
                  have v5 := (X1.out.keep hB.out).2.2.2.2.2.2
                  have w5 := (X2.out.keep hB.out).2.2.2.2.2.2
                  by_cases hlt : k < m1
                  · obtain ⟨b, o, cc, hv, _, hbl, ux, ax, r0, r1, r2, r3, r4, r5, r6, r7⟩ := (F0.out.below hB.out).elem k (by rw [hm1'.out]; exact hlt)
                    obtain ⟨rfl, hmm, rfl⟩ := Value.slice.inj hv
                    clear hmm hv
                    obtain ⟨b', o', cc', hv, _, hbl', uy, ay, e0, e1, e2, e3, e4, e5, e6, e7⟩ := (G0.out.below hB.out).elem k (by rw [hm2'.out]; exact hlt)
                    obtain ⟨rfl, hmm, rfl⟩ := Value.slice.inj hv
                    clear hmm hv
                    have hk64 : IntKind.i64.wrap ((k : Int) + 1) = (k : Int) + 1 := IntWalk.i64_in _ (by omega)
                    have hd := below_drewN (Below.refl wr.heap.size wr) 1
                    have hx := Lib.hid ((show ExS Any wr (exV (F.get k).d ux ax) (F.get k) from ⟨ux, ax, rfl, r6, r7⟩).below hd)
                    have hy := Lib.hid ((show ExS Any wr (exV (G.get k).d uy ay) (G.get k) from ⟨uy, ay, rfl, e6, e7⟩).below hd)
                    obtain ⟨g1, k1, rfl, _, _⟩ := r6
                    obtain ⟨g2, k2, rfl, _, _⟩ := r7
                    obtain ⟨g3, k3, rfl, _, _⟩ := e6
                    obtain ⟨g4, k4, rfl, _, _⟩ := e7
                    have cS := Lib.hid (ih (F.get k) (G.get k) _ _ _ (hS.out k hlt) hx.out hy.out (hW1.out k hlt) (hW2.out k hlt))
                    have hno := Lib.hid (hNo.out k)
                    have hye := Lib.hid (show F.get k = G.get k → ∀ j, j < k + 1 → F.get j = G.get j from fun h j hj => by
                      by_cases e : j = k
                      · rw [e]; exact h
                      · exact hZ.out j (by omega))
                    have hd' := Lib.hid hd
                    unfold exV at cS
                    clear hx hy hd hNo hZ
                    by_cases hdp : F.get k = G.get k
                    · rw [decide_eq_true hdp] at cS
                      have hR := Lib.hid (hye.out hdp)
                      clear hye hno hdp
                      go_wp2_with fail
                      go_region_with (refine cS.out.mono ?_; rintro e w' ⟨rfl, hB2⟩)
                      all_goals
                        have B3 := Lib.hid (trans_b hB.out (trans_b hd'.out hB2))
                        clear hB2
                        go_wp2_with fail
                        go_roundw
                        case rel => exact ⟨k + 1, by omega, by go_num, hR, by first | exact B3 | exact Lib.hid (below_drewN B3.out _)⟩
                        case measure => simp [RowKit.intOf]; omega
                    · rw [decide_eq_false hdp] at cS
                      have hR := Lib.hid (hno.out hdp)
                      clear hye hno hdp
                      go_wp2_with fail
                      go_region_with (refine cS.out.mono ?_; rintro e w' ⟨rfl, hB2⟩)
                      all_goals
                        have B3 := Lib.hid (trans_b hB.out (trans_b hd'.out hB2))
                        clear hB2
                        go_wp2_with fail
                        go_ret
                        exact ⟨ret_b hR.out.symm, by first | exact trans_b B0.out B3.out | exact trans_b B0.out (below_drewN B3.out _)⟩
                  · have hR := Lib.hid (hY2.out (Fo.ext_get (by rw [hm1'.out, hm2'.out]) (fun j hj => hZ.out j (by rw [hm1'.out] at hj; omega))))
                    go_wp2_with fail
                    go_ret
                    exact ⟨ret_b hR.out.symm, trans_b B0.out hB.out⟩
              · have hR := Lib.hid (hN.out (fun hh => h6 (by rw [← hm1'.out, ← hm2'.out, hh.2.2.2.2.2])))
                have t6 : ((m1 : Int) != (m2 : Int)) = true := by simp; omega
                have t6' : ((m1 : Int) == (m2 : Int)) = false := by simp; omega
                have t6'' : (m1 == m2) = false := by simpa using h6
                have t6a : (m1 != m2) = true := by simpa using h6
                clear h1 h2 h3 h4 h5 h6 hY hN
                generalize tx d1.nm = s1 at *
                generalize tx d2.nm = s2 at *
                generalize d1.ws.length = q1 at *
                generalize d2.ws.length = q2 at *
                go_wp2_with fail
                refine cW.out.mono ?_; rintro e w1 ⟨rfl, nd, rfl⟩
                go_wp2_with fail
                go_ret
                exact ⟨ret_b hR.out.symm, below_drewN B0.out _⟩
            · rw [decide_eq_false h5] at cW
              have hR := Lib.hid (hN.out (fun hh => h5 hh.2.2.2.2.1))
              clear h1 h2 h3 h4 h5 hY hN
              generalize tx d1.nm = s1 at *
              generalize tx d2.nm = s2 at *
              generalize d1.ws.length = q1 at *
              generalize d2.ws.length = q2 at *
              go_wp2_with fail
              refine cW.out.mono ?_; rintro e w1 ⟨rfl, nd, rfl⟩
              go_wp2_with fail
              go_ret
              exact ⟨ret_b hR.out.symm, below_drewN B0.out _⟩
          · have t4 : (d1.hi != d2.hi) = true := by simp [h4]
            have t4' : (d1.hi == d2.hi) = false := by simp [h4]
            have hR := Lib.hid (hN.out (fun hh => h4 hh.2.2.2.1))
            clear h1 h2 h3 h4 hY hN cW
            generalize tx d1.nm = s1 at *
            generalize tx d2.nm = s2 at *
            go_wp2_with fail
            go_ret
            exact ⟨ret_b hR.out.symm, B0.out⟩
        · have t3 : (d1.lo != d2.lo) = true := by simp [h3]
          have t3' : (d1.lo == d2.lo) = false := by simp [h3]
          have hR := Lib.hid (hN.out (fun hh => h3 hh.2.2.1))
          clear h1 h2 h3 hY hN cW
          generalize tx d1.nm = s1 at *
          generalize tx d2.nm = s2 at *
          go_wp2_with fail
          go_ret
          exact ⟨ret_b hR.out.symm, B0.out⟩
      · have t2 := tt.out
        rw [decide_eq_false h2] at t2
        have hR := Lib.hid (hN.out (fun hh => h2 hh.2.1))
        clear h1 h2 hY hN cW
        generalize tx d1.nm = s1 at *
        generalize tx d2.nm = s2 at *
        go_wp2_with fail
        go_ret
        exact ⟨ret_b hR.out.symm, B0.out⟩
    · have t1 : (d1.op != d2.op) = true := by simp [h1]
      have t1' : (d1.op == d2.op) = false := by simp [h1]
      have hR := Lib.hid (hN.out (fun hh => h1 hh.1))
      clear h1 hY hN cW tt
      go_wp2_with fail
      go_ret
      exact ⟨ret_b hR.out.symm, B0.out⟩
end Go.Proofs.YtjmipikahaoblaaGreatDoor.Syn
namespace Go.Proofs.YtjmipikahaoblaaGreatDoor.Lx
open Go.RowKit Go.Lib Go.Proofs.YtjmipikahaoblaaGreatDoor.Bas Go.Proofs.YtjmipikahaoblaaGreatDoor.Cal
set_option linter.unusedVariables false

theorem dgs_snoc (n k : Nat) : dgs n (k + 1) = dgs (n / 10) k ++ [dgc ((n % 10 : Nat) : Int)] := by
  induction k with
  | zero => simp [dgs]
  | succ k ih =>
    show dgc (((n / 10 ^ (k + 1) : Nat) : Int) % 10) :: dgs n (k + 1) = (dgc (((n / 10 / 10 ^ k : Nat) : Int) % 10) :: dgs (n / 10) k) ++ _
    rw [ih, Nat.div_div_eq_div_mul, Nat.pow_succ, Nat.mul_comm 10]
    rfl
theorem dgs_dec (n : Nat) : ∀ k, Lst n 1 k → dgs n k = decDigits n := by
  induction n using Nat.strongRecOn with
  | ind n ih =>
    intro k hk
    obtain ⟨h1, h2, h3⟩ := hk
    obtain ⟨j, rfl⟩ : ∃ j, k = j + 1 := ⟨k - 1, by omega⟩
    rw [dgs_snoc]
    by_cases h : n < 10
    · have hj : j = 0 := by
        by_cases e : j = 0
        · exact e
        · have := h3 1 (by omega) (by omega); omega
      subst hj
      rw [decDigits, dif_pos h]
      simp only [dgs, List.nil_append, dgc]
      congr 2
      omega
    · rw [decDigits, dif_neg h]
      have hj : 1 ≤ j := by
        by_cases e : j = 0
        · subst e; omega
        · omega
      rw [ih (n / 10) (by omega) j ⟨hj, by rw [Nat.pow_succ] at h2; omega, fun i hi hij => by
        have := h3 (i + 1) (by omega) (by omega)
        rw [Nat.pow_succ] at this
        omega⟩]
      congr 2
theorem dec_pos (n : Int) (w : World) (h0 : 0 ≤ n) (h1 : n ≤ 17592186044416) : Calls Tryz.prog 143 #[.int .i64 n, .int .i64 1] w (StrBe (tx (decDigits n.toNat)) w) := by
  have c := digits_gen n.toNat 1 w (by omega) (by omega)
  rw [show ((n.toNat : Nat) : Int) = n by omega] at c
  refine c.mono ?_
  rintro e w' ⟨k, hk, rfl, hB⟩
  rw [dgs_dec _ _ hk]
  exact ⟨rfl, hB⟩
set_option maxHeartbeats 1000000 in
theorem decimal_any (n : Int) (w : World) (h0 : -17592186044416 ≤ n) (h1 : n ≤ 17592186044416) : Calls Tryz.prog 116 #[.int .i64 n] w (StrBe (tx (itoa n)) w) := by
  by_cases hn : n < 0
  · have t1 : decide (n < 0) = true := decide_eq_true hn
    have hi : itoa n = 45 :: decDigits n.natAbs := by unfold itoa; rw [if_pos hn]
    rw [hi]
    have hl : (decDigits n.natAbs).length ≤ 21 := by have := itoa_length_le n (by omega) (by omega); rw [hi] at this; simp at this; omega
    have c := Lib.hid (dec_pos (-n) w (by omega) (by omega))
    rw [show (-n).toNat = n.natAbs by omega] at c
    have hcat := tx_cat [45] (decDigits n.natAbs) Tryz.prog
    have hcat2 : ∀ w, (Op.stringOp .add { data := #[45] } (tx (decDigits n.natAbs))).run Tryz.prog w = .ok (.string (tx (45 :: decDigits n.natAbs))) w := fun w => hcat w (by simp; omega)
    generalize tx (decDigits n.natAbs) = f at *
    generalize tx (45 :: decDigits n.natAbs) = f2 at *
    have hw1 : IntKind.i64.wrap (-n) = -n := IntWalk.i64_in _ (by omega)
    clear hi hl hn hcat
    go_enter Tryz.func116, Tryz.ntmps116
    go_wp2_with fail
    refine c.out.mono ?_; rintro e W1 ⟨rfl, hB⟩
    have B := Lib.hid hB
    clear hB
    go_wp2_with fail
    go_ret
    exact ⟨rfl, B.out⟩
  · have t1 : decide (n < 0) = false := decide_eq_false hn
    have hi : itoa n = decDigits n.toNat := by unfold itoa; rw [if_neg hn]
    rw [hi]
    have c := Lib.hid (dec_pos n w (by omega) (by omega))
    generalize tx (decDigits n.toNat) = f at *
    clear hi hn
    go_enter Tryz.func116, Tryz.ntmps116
    go_wp2_with fail
    refine c.out.mono ?_; rintro e W1 ⟨rfl, hB⟩
    have B := Lib.hid hB
    clear hB
    go_wp2_with fail
    go_ret
    exact ⟨rfl, B.out⟩
end Go.Proofs.YtjmipikahaoblaaGreatDoor.Lx
namespace Go.Proofs.YtjmipikahaoblaaGreatDoor.Lx
open Go.RowKit Go.Lib Go.Proofs.YtjmipikahaoblaaGreatDoor.Bas Go.Proofs.YtjmipikahaoblaaGreatDoor.Cal
set_option linter.unusedVariables false

theorem valid_any (n : Int) (w : World) : Calls Tryz.prog 115 #[.int .i64 n] w (BoolSame (decide (-17592186044416 ≤ n ∧ n ≤ 17592186044416)) w) := by
  by_cases h1 : -17592186044416 ≤ n
  · have t1 : decide (-17592186044416 ≤ n) = true := decide_eq_true h1
    by_cases h2 : n ≤ 17592186044416
    · have t2 : decide (n ≤ 17592186044416) = true := decide_eq_true h2
      rw [decide_eq_true ⟨h1, h2⟩]
      clear h1 h2
      go_enter Tryz.func115, Tryz.ntmps115
      go_wp2_with fail
      go_ret
      exact ⟨rfl, rfl⟩
    · have t2 : decide (n ≤ 17592186044416) = false := decide_eq_false h2
      rw [decide_eq_false (fun h => h2 h.2)]
      clear h1 h2
      go_enter Tryz.func115, Tryz.ntmps115
      go_wp2_with fail
      go_ret
      exact ⟨rfl, rfl⟩
  · have t1 : decide (-17592186044416 ≤ n) = false := decide_eq_false h1
    rw [decide_eq_false (fun h => h1 h.1)]
    clear h1
    go_enter Tryz.func115, Tryz.ntmps115
    go_wp2_with fail
    go_ret
    exact ⟨rfl, rfl⟩
/-- A text, which is the token's if it has no error, and the error. -/
def WrOut (t : Tk) (w : World) (e : Ending) (w' : World) : Prop := ∃ s, (wrE t = 0 → s = tx (wr t)) ∧ e = .returned (.tuple #[.string s, .int .i64 (wrE t)]) ∧ Below w.heap.size w w'
set_option maxHeartbeats 4000000 in
theorem rw_kind1 (k : Int) (u : List UInt8) (n p : Int) (w : World) (t1 : decide (k < 1) = true) (hE : wrE ⟨k, u, n, p⟩ = 11) : Calls Tryz.prog 73 #[tkV ⟨k, u, n, p⟩] w (WrOut ⟨k, u, n, p⟩ w) := by
  have B := Lib.hid (below_box w (.cells #[.int .i64 k, .string (tx u), .int .i64 n, .int .i64 p] 71))
  unfold tkV WrOut
  rw [hE]
  clear hE
  go_enter Tryz.func73, Tryz.ntmps73
  go_wp2_with fail
  go_ret2
  exact ⟨_, fun h => absurd h (by decide), rfl, B.out⟩
set_option maxHeartbeats 4000000 in
theorem rw_kind (k : Int) (u : List UInt8) (n p : Int) (w : World) (hk : k < 1 ∨ 4 < k) : Calls Tryz.prog 73 #[tkV ⟨k, u, n, p⟩] w (WrOut ⟨k, u, n, p⟩ w) := by
  have hE : wrE ⟨k, u, n, p⟩ = 11 := by simp [wrE, hk]
  by_cases h1 : k < 1
  · have t1 : decide (k < 1) = true := decide_eq_true h1
    clear hk h1
    exact rw_kind1 k u n p w t1 hE
  have t1 : decide (k < 1) = false := decide_eq_false h1
  have t2 : decide (4 < k) = true := decide_eq_true (by omega)
  clear hk h1
  have B := Lib.hid (below_box w (.cells #[.int .i64 k, .string (tx u), .int .i64 n, .int .i64 p] 71))
  unfold tkV WrOut
  rw [hE]
  clear hE
  go_enter Tryz.func73, Tryz.ntmps73
  go_wp2_with fail
  go_ret2
  exact ⟨_, fun h => absurd h (by decide), rfl, B.out⟩
set_option maxHeartbeats 4000000 in
theorem rw_field1 (u : List UInt8) (n p : Int) (w : World) (hn : n ≠ 0) : Calls Tryz.prog 73 #[tkV ⟨1, u, n, p⟩] w (WrOut ⟨1, u, n, p⟩ w) := by
  have hE : wrE ⟨1, u, n, p⟩ = 20 := by simp [wrE, hn]
  have t1 : (n == 0) = false := by simp [hn]
  have t2 : (n != 0) = true := by simp [hn]
  clear hn
  have B := Lib.hid (below_box w (.cells #[.int .i64 1, .string (tx u), .int .i64 n, .int .i64 p] 71))
  unfold tkV WrOut
  rw [hE]
  clear hE
  go_enter Tryz.func73, Tryz.ntmps73
  go_wp2_with fail
  go_ret2
  exact ⟨_, fun h => absurd h (by decide), rfl, B.out⟩
set_option maxHeartbeats 4000000 in
theorem rw_field4 (u : List UInt8) (n p : Int) (w : World) (hn : n ≠ 0) : Calls Tryz.prog 73 #[tkV ⟨4, u, n, p⟩] w (WrOut ⟨4, u, n, p⟩ w) := by
  have hE : wrE ⟨4, u, n, p⟩ = 20 := by simp [wrE, hn]
  have t1 : (n == 0) = false := by simp [hn]
  have t2 : (n != 0) = true := by simp [hn]
  clear hn
  have B := Lib.hid (below_box w (.cells #[.int .i64 4, .string (tx u), .int .i64 n, .int .i64 p] 71))
  unfold tkV WrOut
  rw [hE]
  clear hE
  go_enter Tryz.func73, Tryz.ntmps73
  go_wp2_with fail
  go_ret2
  exact ⟨_, fun h => absurd h (by decide), rfl, B.out⟩
set_option maxHeartbeats 4000000 in
theorem rw_field2 (u : List UInt8) (n p : Int) (w : World) (hu : u ≠ []) : Calls Tryz.prog 73 #[tkV ⟨2, u, n, p⟩] w (WrOut ⟨2, u, n, p⟩ w) := by
  have hE : wrE ⟨2, u, n, p⟩ = 20 := by simp [wrE, hu]
  have ie := isEmpty_tx u hu
  have ie2 : ((tx u).toList == []) = false := by rw [toList_bl, bl_tx]; simpa using hu
  clear hu
  have B := Lib.hid (below_box w (.cells #[.int .i64 2, .string (tx u), .int .i64 n, .int .i64 p] 71))
  unfold tkV WrOut
  rw [hE]
  clear hE
  go_enter Tryz.func73, Tryz.ntmps73
  go_wp2_with fail
  go_ret2
  exact ⟨_, fun h => absurd h (by decide), rfl, B.out⟩
set_option maxHeartbeats 4000000 in
theorem rw_field3 (u : List UInt8) (n p : Int) (w : World) (hu : u ≠ []) : Calls Tryz.prog 73 #[tkV ⟨3, u, n, p⟩] w (WrOut ⟨3, u, n, p⟩ w) := by
  have hE : wrE ⟨3, u, n, p⟩ = 20 := by simp [wrE, hu]
  have ie := isEmpty_tx u hu
  have ie2 : ((tx u).toList == []) = false := by rw [toList_bl, bl_tx]; simpa using hu
  clear hu
  have B := Lib.hid (below_box w (.cells #[.int .i64 3, .string (tx u), .int .i64 n, .int .i64 p] 71))
  unfold tkV WrOut
  rw [hE]
  clear hE
  go_enter Tryz.func73, Tryz.ntmps73
  go_wp2_with fail
  go_ret2
  exact ⟨_, fun h => absurd h (by decide), rfl, B.out⟩
set_option maxHeartbeats 4000000 in
theorem rw_name_true (u : List UInt8) (n p : Int) (w : World) (hu : u.length ≤ 9223372036854775807) (hn : n = 0) (hw : wordB u = true) : Calls Tryz.prog 73 #[tkV ⟨1, u, n, p⟩] w (WrOut ⟨1, u, n, p⟩ w) := by
  have hE : wrE ⟨1, u, n, p⟩ = 0 := by simp [wrE, hn, hw]
  have c1 := Lib.hid (fun w => rWord_any (tx u) w (by rw [tx_size]; exact hu))
  rw [bl_tx, hw] at c1
  have t1 : (n == 0) = true := by simp [hn]
  have t2 : (n != 0) = false := by simp [hn]
  clear hn hw
  have B := Lib.hid (below_box w (.cells #[.int .i64 1, .string (tx u), .int .i64 n, .int .i64 p] 71))
  unfold tkV WrOut
  rw [hE]
  clear hE
  go_enter Tryz.func73, Tryz.ntmps73
  go_wp2_with fail
  refine (c1.out _).mono ?_; rintro e w' ⟨rfl, rfl⟩
  go_wp2_with fail
  go_ret2
  exact ⟨_, fun _ => rfl, rfl, B.out⟩
set_option maxHeartbeats 4000000 in
theorem rw_mark_true (u : List UInt8) (n p : Int) (w : World) (hn : n = 0) (hw : markB u = true) : Calls Tryz.prog 73 #[tkV ⟨4, u, n, p⟩] w (WrOut ⟨4, u, n, p⟩ w) := by
  have hE : wrE ⟨4, u, n, p⟩ = 0 := by simp [wrE, hn, hw]
  have c1 := Lib.hid (rmark_any (tx u))
  rw [bl_tx, hw] at c1
  have t1 : (n == 0) = true := by simp [hn]
  have t2 : (n != 0) = false := by simp [hn]
  clear hn hw
  have B := Lib.hid (below_box w (.cells #[.int .i64 4, .string (tx u), .int .i64 n, .int .i64 p] 71))
  unfold tkV WrOut
  rw [hE]
  clear hE
  go_enter Tryz.func73, Tryz.ntmps73
  go_wp2_with fail
  refine (c1.out _).mono ?_; rintro e w' ⟨rfl, rfl⟩
  go_wp2_with fail
  go_ret2
  exact ⟨_, fun _ => rfl, rfl, B.out⟩
set_option maxHeartbeats 4000000 in
theorem rw_name_false (u : List UInt8) (n p : Int) (w : World) (hu : u.length ≤ 9223372036854775807) (hn : n = 0) (hw : wordB u = false) : Calls Tryz.prog 73 #[tkV ⟨1, u, n, p⟩] w (WrOut ⟨1, u, n, p⟩ w) := by
  have hE : wrE ⟨1, u, n, p⟩ = 6 := by simp [wrE, hn, hw]
  have c1 := Lib.hid (fun w => rWord_any (tx u) w (by rw [tx_size]; exact hu))
  rw [bl_tx, hw] at c1
  have t1 : (n == 0) = true := by simp [hn]
  have t2 : (n != 0) = false := by simp [hn]
  clear hn hw
  have B := Lib.hid (below_box w (.cells #[.int .i64 1, .string (tx u), .int .i64 n, .int .i64 p] 71))
  unfold tkV WrOut
  rw [hE]
  clear hE
  go_enter Tryz.func73, Tryz.ntmps73
  go_wp2_with fail
  refine (c1.out _).mono ?_; rintro e w' ⟨rfl, rfl⟩
  go_wp2_with fail
  go_ret2
  exact ⟨_, fun h => absurd h (by decide), rfl, B.out⟩
set_option maxHeartbeats 4000000 in
theorem rw_mark_false (u : List UInt8) (n p : Int) (w : World) (hn : n = 0) (hw : markB u = false) : Calls Tryz.prog 73 #[tkV ⟨4, u, n, p⟩] w (WrOut ⟨4, u, n, p⟩ w) := by
  have hE : wrE ⟨4, u, n, p⟩ = 5 := by simp [wrE, hn, hw]
  have c1 := Lib.hid (rmark_any (tx u))
  rw [bl_tx, hw] at c1
  have t1 : (n == 0) = true := by simp [hn]
  have t2 : (n != 0) = false := by simp [hn]
  clear hn hw
  have B := Lib.hid (below_box w (.cells #[.int .i64 4, .string (tx u), .int .i64 n, .int .i64 p] 71))
  unfold tkV WrOut
  rw [hE]
  clear hE
  go_enter Tryz.func73, Tryz.ntmps73
  go_wp2_with fail
  refine (c1.out _).mono ?_; rintro e w' ⟨rfl, rfl⟩
  go_wp2_with fail
  go_ret2
  exact ⟨_, fun h => absurd h (by decide), rfl, B.out⟩
set_option maxHeartbeats 4000000 in
theorem rw_num (u : List UInt8) (n p : Int) (w : World) (hu : u = []) (hn : -17592186044416 ≤ n ∧ n ≤ 17592186044416) : Calls Tryz.prog 73 #[tkV ⟨2, u, n, p⟩] w (WrOut ⟨2, u, n, p⟩ w) := by
  subst hu
  have ie : (tx []).toList.isEmpty = true := by rw [toList_bl]; rfl
  have ie2 : ((tx []).toList == []) = true := by rw [toList_bl]; rfl
  have hE : wrE ⟨2, [], n, p⟩ = 0 := by simp [wrE, hn]
  have c1 := Lib.hid (valid_any n)
  rw [decide_eq_true hn] at c1
  have c2 := Lib.hid (fun w => decimal_any n w hn.1 hn.2)
  have hq := Lib.hid (show tx (itoa n) = tx (wr ⟨2, [], n, p⟩) from rfl)
  generalize tx (itoa n) = f at *
  clear hn
  have B := Lib.hid (below_box w (.cells #[.int .i64 2, .string (tx []), .int .i64 n, .int .i64 p] 71))
  unfold tkV WrOut
  rw [hE]
  clear hE
  go_enter Tryz.func73, Tryz.ntmps73
  go_wp2_with fail
  refine (c1.out _).mono ?_; rintro e w' ⟨rfl, rfl⟩
  go_wp2_with fail
  refine (c2.out _).mono ?_; rintro e W1 ⟨rfl, hB⟩
  have B2 := Lib.hid (B.out.trans (hB.mono B.out.size))
  clear hB
  go_wp2_with fail
  go_ret2
  exact ⟨_, fun _ => hq.out, rfl, B2.out⟩
set_option maxHeartbeats 4000000 in
theorem rw_num_bad (u : List UInt8) (n p : Int) (w : World) (hu : u = []) (hn : ¬ (-17592186044416 ≤ n ∧ n ≤ 17592186044416)) : Calls Tryz.prog 73 #[tkV ⟨2, u, n, p⟩] w (WrOut ⟨2, u, n, p⟩ w) := by
  subst hu
  have ie : (tx []).toList.isEmpty = true := by rw [toList_bl]; rfl
  have ie2 : ((tx []).toList == []) = true := by rw [toList_bl]; rfl
  have hE : wrE ⟨2, [], n, p⟩ = 1 := by simp [wrE]; omega
  have c1 := Lib.hid (valid_any n)
  rw [decide_eq_false hn] at c1
  clear hn
  have B := Lib.hid (below_box w (.cells #[.int .i64 2, .string (tx []), .int .i64 n, .int .i64 p] 71))
  unfold tkV WrOut
  rw [hE]
  clear hE
  go_enter Tryz.func73, Tryz.ntmps73
  go_wp2_with fail
  refine (c1.out _).mono ?_; rintro e w' ⟨rfl, rfl⟩
  go_wp2_with fail
  go_ret2
  exact ⟨_, fun h => absurd h (by decide), rfl, B.out⟩
set_option maxHeartbeats 4000000 in
theorem rw_hour (u : List UInt8) (n p : Int) (w : World) (hu : u = []) (hn : 0 ≤ n ∧ n ≤ 876599) : Calls Tryz.prog 73 #[tkV ⟨3, u, n, p⟩] w (WrOut ⟨3, u, n, p⟩ w) := by
  subst hu
  have ie : (tx []).toList.isEmpty = true := by rw [toList_bl]; rfl
  have ie2 : ((tx []).toList == []) = true := by rw [toList_bl]; rfl
  have hE : wrE ⟨3, [], n, p⟩ = 0 := by simp [wrE, hn]
  have c := Lib.hid (rformat_any n)
  rw [show fmtV n = (fmtT n, 0) by unfold fmtV; rw [if_pos hn]] at c
  have hcat := fmt_cat n Tryz.prog
  have hq := Lib.hid (show tx (64 :: bl (fmtT n)) = tx (wr ⟨3, [], n, p⟩) from rfl)
  generalize tx (64 :: bl (fmtT n)) = f2 at *
  generalize fmtT n = f at *
  clear hn
  have B := Lib.hid (below_box w (.cells #[.int .i64 3, .string (tx []), .int .i64 n, .int .i64 p] 71))
  unfold tkV WrOut
  rw [hE]
  clear hE
  go_enter Tryz.func73, Tryz.ntmps73
  go_wp2_with fail
  refine (c.out _).mono ?_; rintro e W1 ⟨rfl, hB⟩
  have B2 := Lib.hid (B.out.trans (hB.mono B.out.size))
  clear hB
  go_wp2_with fail
  go_ret2
  exact ⟨_, fun _ => hq.out, rfl, B2.out⟩
set_option maxHeartbeats 4000000 in
theorem rw_hour_bad (u : List UInt8) (n p : Int) (w : World) (hu : u = []) (hn : ¬ (0 ≤ n ∧ n ≤ 876599)) : Calls Tryz.prog 73 #[tkV ⟨3, u, n, p⟩] w (WrOut ⟨3, u, n, p⟩ w) := by
  subst hu
  have ie : (tx []).toList.isEmpty = true := by rw [toList_bl]; rfl
  have ie2 : ((tx []).toList == []) = true := by rw [toList_bl]; rfl
  have hE : wrE ⟨3, [], n, p⟩ = 1 := by simp [wrE, hn]
  have c := Lib.hid (rformat_any n)
  rw [show fmtV n = ({ data := #[] }, 1) by unfold fmtV; rw [if_neg hn]] at c
  clear hn
  have B := Lib.hid (below_box w (.cells #[.int .i64 3, .string (tx []), .int .i64 n, .int .i64 p] 71))
  unfold tkV WrOut
  rw [hE]
  clear hE
  go_enter Tryz.func73, Tryz.ntmps73
  go_wp2_with fail
  refine (c.out _).mono ?_; rintro e W1 ⟨rfl, hB⟩
  have B2 := Lib.hid (B.out.trans (hB.mono B.out.size))
  clear hB
  go_wp2_with fail
  go_ret2
  exact ⟨_, fun h => absurd h (by decide), rfl, B2.out⟩
theorem rwritten_any (t : Tk) (w : World) (hu : t.t.length ≤ 9223372036854775807) : Calls Tryz.prog 73 #[tkV t] w (WrOut t w) := by
  obtain ⟨k, u, n, p⟩ := t
  by_cases hk : k < 1 ∨ 4 < k
  · exact rw_kind k u n p w hk
  · rcases (show k = 1 ∨ k = 2 ∨ k = 3 ∨ k = 4 by omega) with rfl | rfl | rfl | rfl
    · by_cases hn : n = 0
      · cases hw : wordB u with
        | true => exact rw_name_true u n p w hu hn hw
        | false => exact rw_name_false u n p w hu hn hw
      · exact rw_field1 u n p w hn
    · by_cases he : u = []
      · by_cases hn : -17592186044416 ≤ n ∧ n ≤ 17592186044416
        · exact rw_num u n p w he hn
        · exact rw_num_bad u n p w he hn
      · exact rw_field2 u n p w he
    · by_cases he : u = []
      · by_cases hn : 0 ≤ n ∧ n ≤ 876599
        · exact rw_hour u n p w he hn
        · exact rw_hour_bad u n p w he hn
      · exact rw_field3 u n p w he
    · by_cases hn : n = 0
      · cases hw : markB u with
        | true => exact rw_mark_true u n p w hn hw
        | false => exact rw_mark_false u n p w hn hw
      · exact rw_field4 u n p w hn
end Go.Proofs.YtjmipikahaoblaaGreatDoor.Lx
namespace Go.Proofs.YtjmipikahaoblaaGreatDoor.Lx
open Go.RowKit Go.Lib Go.Proofs.YtjmipikahaoblaaGreatDoor.Bas Go.Proofs.YtjmipikahaoblaaGreatDoor.Cal
set_option linter.unusedVariables false

/-- Is there a gap? -/
def gapB (last s : List UInt8) : Bool := !(last == [40]) && ((s == [40]) || !markB s)
theorem gap_of (last s : List UInt8) : gap last s = if gapB last s = true then [32] else [] := by
  unfold gap gapB
  congr 1
  simp
theorem tx_eq (u : List UInt8) : (tx u).toList = u := by rw [toList_bl, bl_tx]
theorem snoc_take (l : List Tk) (k : Nat) (h : k < l.length) (g : ∀ j, j < k → wrE (tk l j) = 0) (e : wrE (tk l k) = 0) : ∀ j, j < k + 1 → wrE (tk l j) = 0 := fun j hj => by
  by_cases hjk : j < k
  · exact g j hjk
  · obtain rfl : j = k := by omega
    exact e
set_option maxRecDepth 8000 in
set_option maxHeartbeats 16000000 in
theorem join_near (v : Value) (l : List Tk) (w : World) (hE : Env w) (h : TksAt w v l) (ht : ∀ t ∈ l, t.t.length ≤ 9223372036854775807) (h4 : l.length ≤ 4000) : Calls Tryz.prog 47 #[v] w (JoinOut (joinV l) w) := by
  have hA := Lib.hid h
  have hE' := Lib.hid hE
  have ht' := Lib.hid ht
  obtain ⟨p, c, rfl, _, hp⟩ := h
  have hp' := Lib.hid hp
  obtain ⟨n, hn⟩ : ∃ n, l.length = n := ⟨_, rfl⟩
  have hn' := Lib.hid hn
  rw [hn] at h4
  rw [hn] at hA hp' ⊢
  have B0 := Lib.hid (below_box w (.cells #[.pointer none, .slice none 0 0] 93))
  have N0 := Lib.hid (bld_new w)
  have hfar : joinV l = if joinE l ≠ 0 then ([], joinE l) else if 16384 < (joinT [40] l).length then ([], 4) else (joinT [40] l, 0) := by unfold joinV; rw [if_neg (by omega)]
  have hfar' := Lib.hid hfar
  obtain ⟨J, hJ⟩ : ∃ J, joinT [40] l = J := ⟨_, rfl⟩
  have hJ' := Lib.hid hJ
  have hJ0 := Lib.hid (show joinT [40] (l.drop 0) = J by rw [List.drop_zero]; exact hJ)
  have t1 : decide ((4000 : Int) < (n : Int)) = false := by simp; omega
  have t2 : decide (4000 < n) = false := by simp; omega
  have cW := Lib.hid written_any
  have cM := Lib.hid isMark_any
  clear hp hn hE ht hfar hJ
  go_enter Tryz.func47, Tryz.ntmps47
  go_wp2_with fail
  try any_goals (exfalso; omega; done)
  go_loopw [5, 15] (fun x5 x15 wr => ∃ (k : Nat) (last acc : List UInt8), x15 = .int .i64 k ∧ x5 = .string (tx last) ∧ k ≤ n ∧ acc.length ≤ 22 * k ∧ Hid (∀ j, j < k → wrE (tk l j) = 0) ∧ Hid (acc ++ joinT last (l.drop k) = J) ∧ Hid (Bld w.heap.size w.heap.size acc wr) ∧ Hid (Below w.heap.size w wr)) (fun _ i _ => n - (RowKit.intOf i).toNat)
  case atStart => exact ⟨0, [40], [], rfl, rfl, Nat.zero_le _, by simp, Lib.hid (fun j hj => by omega), Lib.hid (by rw [List.nil_append]; exact hJ0.out), N0, B0⟩
  case round =>
    obtain ⟨k, last, acc, rfl, rfl, hk, hac, hG, hT, hN, hB⟩ := hrel
    by_cases hlt : k < n
    · have hcA := (hA.out.below hB.out)
      obtain ⟨p2, c2, hv2, _, hpp⟩ := hcA
      obtain ⟨b, off, hpb, hc⟩ := hpp (by rw [hn'.out]; omega)
      obtain rfl : p2 = p := by cases hv2; rfl
      subst hpb
      have y := hc k (by rw [hn'.out]; exact hlt)
      have hmem : tk l k ∈ l := by rw [tk_at l k (by rw [hn'.out]; exact hlt)]; exact List.getElem_mem _
      have hEr := hE'.out.keep hB.out
      have cw := Lib.hid (fun w hE => cW.out (tk l k) w hE (ht'.out _ hmem))
      have hstep := Lib.hid (joinT_step last l k (by rw [hn'.out]; exact hlt))
      have hbad := Lib.hid (joinE_at l k (by rw [hn'.out]; exact hlt) hG.out)
      have hgood := Lib.hid (snoc_take l k (by rw [hn'.out]; exact hlt) hG.out)
      have hwl := Lib.hid (wr_len (tk l k))
      have hws : wrE (tk l k) = 0 → wrS (tk l k) = tx (Lx.wr (tk l k)) := fun e => by unfold wrS; rw [if_pos e]
      have hws' := Lib.hid hws
      have hsE := hB.out.size
      obtain ⟨y0, y1, y2, y3⟩ := y
      unfold tkV at cw
      clear hv2 hpp hc hmem hws hp' hA
      generalize wrE (tk l k) = er at *
      generalize wrS (tk l k) = sr at *
      generalize Lx.wr (tk l k) = u at *
      generalize (tk l k).k = k1 at *
      generalize (tk l k).t = t1 at *
      generalize (tk l k).n = n1 at *
      generalize (tk l k).p = p1 at *
      have hEx := Lib.hid (Env.alloc hEr (.cells #[.int .i64 k1, .string (tx t1), .int .i64 n1, .int .i64 p1] 71))
      have Bx := Lib.hid (below_box wr (.cells #[.int .i64 k1, .string (tx t1), .int .i64 n1, .int .i64 p1] 71))
      clear hEr
      go_wp2_with fail
      refine (cw.out _ hEx.out).mono ?_; rintro e W1 ⟨rfl, hB1⟩
      have hvW : Below wr.heap.size wr W1 := Bx.out.trans (hB1.mono Bx.out.size)
      have N1 := Lib.hid (hN.out.keep hvW)
      have B1 := Lib.hid (hB.out.trans (hvW.mono hB.out.size))
      have hs1 := B1.out.size
      clear hB1 hvW hN hB Bx hEx cw
      by_cases he : er = 0
      · have v1 : (er == 0) = true := by simp [he]
        have v2 : (er != 0) = false := by simp [he]
        obtain rfl : sr = tx u := hws'.out he
        have hul := hwl.out he
        have hG2 := Lib.hid (hgood.out he)
        have cMu := Lib.hid (fun w => cM.out (tx u) w)
        rw [bl_tx] at cMu
        have hg : gap last u = if gapB last u = true then [32] else [] := gap_of last u
        unfold gapB at hg
        obtain ⟨a, ha⟩ : ∃ a, (last == [40]) = a := ⟨_, rfl⟩
        obtain ⟨q, hq⟩ : ∃ q, (u == [40]) = q := ⟨_, rfl⟩
        have x1 : ((tx last).toList == [40]) = a := by rw [tx_eq]; exact ha
        have x2 : ((tx last).toList != [40]) = !a := by rw [bne, tx_eq, ha]
        have x3 : ((tx u).toList == [40]) = q := by rw [tx_eq]; exact hq
        rw [ha, hq] at hg
        generalize markB u = m at *
        have hT2 := Lib.hid (show acc ++ (gap last u ++ (u ++ joinT u (l.drop (k + 1)))) = J by rw [← hstep.out]; exact hT.out)
        have hg' := Lib.hid hg
        clear hg ha hq he hgood hbad hws' hwl hstep hT hG
        by_cases hgp : (!a && (q || !m)) = true
        · have hT3 := Lib.hid (show (acc ++ [32] ++ u) ++ joinT u (l.drop (k + 1)) = J by rw [← hT2.out, hg'.out, if_pos hgp]; simp only [List.append_assoc])
          have cB := Lib.hid (write_byte w.heap.size w.heap.size acc 32 W1 N1.out (by omega) hs1)
          rw [show (((32 : UInt8).toNat : Nat) : Int) = 32 from rfl] at cB
          have hTT : ∀ W2, Bld w.heap.size w.heap.size (acc ++ [32]) W2 → Below w.heap.size W1 W2 → Hid (Calls Tryz.prog 66 #[.pointer (some ⟨w.heap.size, 0, none⟩), .string (tx u)] W2 fun e w' => (∃ z, e = .returned z) ∧ Bld w.heap.size w.heap.size (acc ++ [32] ++ u) w' ∧ Below w.heap.size W2 w') :=
            fun W2 hN2 hB2 => Lib.hid (write_string w.heap.size w.heap.size (acc ++ [32]) u W2 hN2 (by simp; omega) (Nat.le_trans hs1 hB2.size))
          have hTT' := Lib.hid hTT
          clear hTT hT2 hg' N1
          cases a with
          | true => exact absurd hgp (by simp)
          | false =>
            cases q with
            | true =>
              clear hgp
              go_wp2_with fail
              refine cB.out.mono ?_; rintro e W2 ⟨rfl, hN2, hB2⟩
              have cS := hTT'.out W2 hN2 hB2
              have B2 := Lib.hid (B1.out.trans hB2)
              clear hN2 hB2
              go_wp2_with fail
              refine cS.out.mono ?_; rintro e W3 ⟨⟨z, rfl⟩, hN3, hB3⟩
              have N3 := Lib.hid hN3
              have B3 := Lib.hid (B2.out.trans hB3)
              clear hN3 hB3
              go_wp2_with fail
              go_roundw
              case rel => exact ⟨k + 1, u, acc ++ [32] ++ u, by go_num, rfl, by omega, by simp; omega, hG2, hT3, N3, B3⟩
              case measure => simp [RowKit.intOf]; omega
            | false =>
              cases m with
              | true => exact absurd hgp (by simp)
              | false =>
                clear hgp
                go_wp2_with fail
                refine (cMu.out _).mono ?_; rintro e w' ⟨rfl, rfl⟩
                go_wp2_with fail
                refine cB.out.mono ?_; rintro e W2 ⟨rfl, hN2, hB2⟩
                have cS := hTT'.out W2 hN2 hB2
                have B2 := Lib.hid (B1.out.trans hB2)
                clear hN2 hB2
                go_wp2_with fail
                refine cS.out.mono ?_; rintro e W3 ⟨⟨z, rfl⟩, hN3, hB3⟩
                have N3 := Lib.hid hN3
                have B3 := Lib.hid (B2.out.trans hB3)
                clear hN3 hB3
                go_wp2_with fail
                go_roundw
                case rel => exact ⟨k + 1, u, acc ++ [32] ++ u, by go_num, rfl, by omega, by simp; omega, hG2, hT3, N3, B3⟩
                case measure => simp [RowKit.intOf]; omega
        · have hT3 := Lib.hid (show (acc ++ u) ++ joinT u (l.drop (k + 1)) = J by rw [← hT2.out, hg'.out, if_neg hgp]; simp only [List.append_assoc, List.nil_append])
          have cS := Lib.hid (write_string w.heap.size w.heap.size acc u W1 N1.out (by omega) hs1)
          clear hT2 hg' N1
          cases a with
          | true =>
            clear hgp
            go_wp2_with fail
            refine cS.out.mono ?_; rintro e W3 ⟨⟨z, rfl⟩, hN3, hB3⟩
            have N3 := Lib.hid hN3
            have B3 := Lib.hid (B1.out.trans hB3)
            clear hN3 hB3
            go_wp2_with fail
            go_roundw
            case rel => exact ⟨k + 1, u, acc ++ u, by go_num, rfl, by omega, by simp; omega, hG2, hT3, N3, B3⟩
            case measure => simp [RowKit.intOf]; omega
          | false =>
            cases q with
            | true => exact absurd rfl hgp
            | false =>
              cases m with
              | false => exact absurd rfl hgp
              | true =>
                clear hgp
                go_wp2_with fail
                refine (cMu.out _).mono ?_; rintro e w' ⟨rfl, rfl⟩
                go_wp2_with fail
                refine cS.out.mono ?_; rintro e W3 ⟨⟨z, rfl⟩, hN3, hB3⟩
                have N3 := Lib.hid hN3
                have B3 := Lib.hid (B1.out.trans hB3)
                clear hN3 hB3
                go_wp2_with fail
                go_roundw
                case rel => exact ⟨k + 1, u, acc ++ u, by go_num, rfl, by omega, by simp; omega, hG2, hT3, N3, B3⟩
                case measure => simp [RowKit.intOf]; omega
      · have v1 : (er == 0) = false := by simp [he]
        have v2 : (er != 0) = true := by simp [he]
        have hv : joinV l = ([], er) := by
          have := hbad.out he
          rw [hfar'.out, this, if_pos he]
        have hv' := Lib.hid hv
        clear he hv
        go_wp2_with fail
        go_ret2
        exact ⟨by rw [hv'.out]; rfl, B1.out⟩
    · obtain rfl : k = n := by omega
      have hJ1 : joinE l = 0 := joinE_all l (by rw [hn'.out]; exact hG.out)
      have hacc : acc = J := by
        have := hT.out
        rw [joinT_end last l k (by rw [hn'.out]; omega), List.append_nil] at this
        exact this
      have cL := Lib.hid (wlen_any w.heap.size w.heap.size acc wr hN.out)
      have cS := Lib.hid (wstr_any w.heap.size w.heap.size acc wr hN.out hB.out.size)
      by_cases h16 : 16384 < acc.length
      · have hv : joinV l = ([], 4) := by rw [hfar'.out, hJ1, if_neg (by simp), hJ'.out, ← hacc, if_pos h16]
        have u1 : decide ((16384 : Int) < (acc.length : Int)) = true := by simp; omega
        have u2 : decide (16384 < acc.length) = true := by simp; omega
        have hv' := Lib.hid hv
        clear hv hacc hJ1 h16
        go_wp2_with fail
        refine cL.out.mono ?_; rintro e w' ⟨rfl, rfl⟩
        go_wp2_with fail
        try any_goals (exfalso; omega; done)
        go_ret2
        exact ⟨by rw [hv'.out]; rfl, hB.out⟩
      · have hv : joinV l = (acc, 0) := by rw [hfar'.out, hJ1, if_neg (by simp), hJ'.out, ← hacc, if_neg h16]
        have u1 : decide ((16384 : Int) < (acc.length : Int)) = false := by simp; omega
        have u2 : decide (16384 < acc.length) = false := by simp; omega
        have hv' := Lib.hid hv
        clear hv hacc hJ1 h16
        go_wp2_with fail
        refine cL.out.mono ?_; rintro e w' ⟨rfl, rfl⟩
        go_wp2_with fail
        try any_goals (exfalso; omega; done)
        refine cS.out.mono ?_; rintro e W2 ⟨rfl, hB2⟩
        have B2 := Lib.hid (hB.out.trans hB2)
        clear hB2
        go_wp2_with fail
        go_ret2
        exact ⟨by rw [hv'.out]; rfl, B2.out⟩
theorem join_any (v : Value) (l : List Tk) (w : World) (hE : Env w) (h : TksAt w v l) (ht : ∀ t ∈ l, t.t.length ≤ 9223372036854775807) (hl : l.length ≤ 9223372036854775807) : Calls Tryz.prog 47 #[v] w (JoinOut (joinV l) w) := by
  by_cases h4 : 4000 < l.length
  · exact join_far v l w h h4 hl
  · exact join_near v l w hE h ht (by omega)
end Go.Proofs.YtjmipikahaoblaaGreatDoor.Lx
namespace Go.Proofs.YtjmipikahaoblaaGreatDoor.Lx
open Go.RowKit Go.Lib Go.Proofs.YtjmipikahaoblaaGreatDoor.Bas Go.Proofs.YtjmipikahaoblaaGreatDoor.Cal
set_option linter.unusedVariables false

theorem gapB_ref (last s : List UInt8) : gapB last s = (!(last == [40]) && (!(s == [59]) && (!(s == [58]) && (!(s == [44]) && !(s == [41]))))) := by
  unfold gapB
  congr 1
  rw [Bool.eq_iff_iff]
  unfold markB
  simp only [Bool.or_eq_true, beq_iff_eq, Bool.not_eq_true', decide_eq_false_iff_not, Bool.and_eq_true, beq_eq_false_iff_ne, ne_eq]
  constructor
  · rintro (rfl | h)
    · decide
    · exact ⟨fun e => h (.inl e), fun e => h (.inr (.inl e)), fun e => h (.inr (.inr (.inl e))), fun e => h (.inr (.inr (.inr (.inr e))))⟩
  · rintro ⟨h1, h2, h3, h4⟩
    by_cases h : s = [40]
    · exact .inl h
    · right
      rintro (e | e | e | e | e)
      · exact h1 e
      · exact h2 e
      · exact h3 e
      · exact h e
      · exact h4 e
theorem rjoin_far (v : Value) (l : List Tk) (w : World) (h : TksAt w v l) (h4 : 4000 < l.length) (hl : l.length ≤ 9223372036854775807) : Calls Tryz.prog 49 #[v] w (JoinOut (joinV l) w) := by
  rw [show joinV l = ([], 4) by unfold joinV; rw [if_pos h4]]
  obtain ⟨p, c, rfl, _, _⟩ := h
  have t1 : decide ((4000 : Int) < (l.length : Int)) = true := by simp; omega
  have t2 : decide (4000 < l.length) = true := by simp; omega
  go_enter Tryz.func49, Tryz.ntmps49
  go_wp2_with fail
  try any_goals (exfalso; omega; done)
  go_ret2
  exact ⟨rfl, Below.refl _ _⟩
set_option maxRecDepth 8000 in
set_option maxHeartbeats 16000000 in
theorem rjoin_near (v : Value) (l : List Tk) (w : World) (h : TksAt w v l) (ht : ∀ t ∈ l, t.t.length ≤ 9223372036854775807) (h4 : l.length ≤ 4000) : Calls Tryz.prog 49 #[v] w (JoinOut (joinV l) w) := by
  have hA := Lib.hid h
  have ht' := Lib.hid ht
  obtain ⟨p, c, rfl, _, hp⟩ := h
  have hp' := Lib.hid hp
  obtain ⟨n, hn⟩ : ∃ n, l.length = n := ⟨_, rfl⟩
  have hn' := Lib.hid hn
  rw [hn] at h4
  rw [hn] at hA hp' ⊢
  have hfar : joinV l = if joinE l ≠ 0 then ([], joinE l) else if 16384 < (joinT [40] l).length then ([], 4) else (joinT [40] l, 0) := by unfold joinV; rw [if_neg (by omega)]
  have hfar' := Lib.hid hfar
  obtain ⟨J, hJ⟩ : ∃ J, joinT [40] l = J := ⟨_, rfl⟩
  have hJ' := Lib.hid hJ
  have hJ0 := Lib.hid (show joinT [40] (l.drop 0) = J by rw [List.drop_zero]; exact hJ)
  have t1 : decide ((4000 : Int) < (n : Int)) = false := by simp; omega
  have t2 : decide (4000 < n) = false := by simp; omega
  have cW := Lib.hid rwritten_any
  have hempty := Lib.hid (show ({ data := #[] } : ByteArray) = tx [] from rfl)
  clear hp hn ht hfar hJ
  go_enter Tryz.func49, Tryz.ntmps49
  go_wp2_with fail
  try any_goals (exfalso; omega; done)
  go_loopw [4, 5, 6] (fun x4 x5 x6 wr => ∃ (k : Nat) (last acc : List UInt8), x6 = .int .i64 k ∧ x5 = .bool (last == [40]) ∧ x4 = .string (tx acc) ∧ k ≤ n ∧ acc.length ≤ 22 * k ∧ Hid (∀ j, j < k → wrE (tk l j) = 0) ∧ Hid (acc ++ joinT last (l.drop k) = J) ∧ Hid (Below w.heap.size w wr)) (fun _ _ i _ => n - (RowKit.intOf i).toNat)
  case atStart => exact ⟨0, [40], [], rfl, rfl, by rw [hempty.out], Nat.zero_le _, by simp, Lib.hid (fun j hj => by omega), Lib.hid (by rw [List.nil_append]; exact hJ0.out), Lib.hid (Below.refl _ _)⟩
  case round =>
    obtain ⟨k, last, acc, rfl, rfl, rfl, hk, hac, hG, hT, hB⟩ := hrel
    by_cases hlt : k < n
    · have hcA := (hA.out.below hB.out)
      obtain ⟨p2, c2, hv2, _, hpp⟩ := hcA
      obtain ⟨b, off, hpb, hc⟩ := hpp (by rw [hn'.out]; omega)
      obtain rfl : p2 = p := by cases hv2; rfl
      subst hpb
      have y := hc k (by rw [hn'.out]; exact hlt)
      have hmem : tk l k ∈ l := by rw [tk_at l k (by rw [hn'.out]; exact hlt)]; exact List.getElem_mem _
      have cw := Lib.hid (fun w => cW.out (tk l k) w (ht'.out _ hmem))
      have hstep := Lib.hid (joinT_step last l k (by rw [hn'.out]; exact hlt))
      have hbad := Lib.hid (joinE_at l k (by rw [hn'.out]; exact hlt) hG.out)
      have hgood := Lib.hid (snoc_take l k (by rw [hn'.out]; exact hlt) hG.out)
      have hwl := Lib.hid (wr_len (tk l k))
      obtain ⟨y0, y1, y2, y3⟩ := y
      unfold tkV WrOut at cw
      clear hv2 hpp hc hmem hp' hA
      generalize wrE (tk l k) = er at *
      generalize Lx.wr (tk l k) = u at *
      generalize (tk l k).k = k1 at *
      generalize (tk l k).t = t1 at *
      generalize (tk l k).n = n1 at *
      generalize (tk l k).p = p1 at *
      obtain ⟨a, ha⟩ : ∃ a, (last == [40]) = a := ⟨_, rfl⟩
      rw [ha]
      go_wp2_with fail
      refine (cw.out _).mono ?_; rintro e W1 ⟨sr, hsr, rfl, hB1⟩
      have B1 := Lib.hid (hB.out.trans (hB1.mono hB.out.size))
      have hsr' := Lib.hid hsr
      clear hB1 hB cw hsr
      by_cases he : er = 0
      · have v1 : (er == 0) = true := by simp [he]
        have v2 : (er != 0) = false := by simp [he]
        obtain rfl : sr = tx u := hsr'.out he
        have hul := hwl.out he
        have hG2 := Lib.hid (hgood.out he)
        have hg : gap last u = if gapB last u = true then [32] else [] := gap_of last u
        rw [gapB_ref, ha] at hg
        obtain ⟨q, hq⟩ : ∃ q, (u == [40]) = q := ⟨_, rfl⟩
        obtain ⟨m1, hm1⟩ : ∃ q, (u == [59]) = q := ⟨_, rfl⟩
        obtain ⟨m2, hm2⟩ : ∃ q, (u == [58]) = q := ⟨_, rfl⟩
        obtain ⟨m3, hm3⟩ : ∃ q, (u == [44]) = q := ⟨_, rfl⟩
        obtain ⟨m4, hm4⟩ : ∃ q, (u == [41]) = q := ⟨_, rfl⟩
        have x3 : ((tx u).toList == [40]) = q := by rw [tx_eq]; exact hq
        have z1 : ((tx u).toList == [59]) = m1 := by rw [tx_eq]; exact hm1
        have z2 : ((tx u).toList == [58]) = m2 := by rw [tx_eq]; exact hm2
        have z3 : ((tx u).toList == [44]) = m3 := by rw [tx_eq]; exact hm3
        have z4 : ((tx u).toList == [41]) = m4 := by rw [tx_eq]; exact hm4
        have y1 : ((tx u).toList != [59]) = !m1 := by rw [bne, z1]
        have y2 : ((tx u).toList != [58]) = !m2 := by rw [bne, z2]
        have y3 : ((tx u).toList != [44]) = !m3 := by rw [bne, z3]
        have y4 : ((tx u).toList != [41]) = !m4 := by rw [bne, z4]
        rw [hm1, hm2, hm3, hm4] at hg
        have hq' := Lib.hid hq
        have hT2 := Lib.hid (show acc ++ (gap last u ++ (u ++ joinT u (l.drop (k + 1)))) = J by rw [← hstep.out]; exact hT.out)
        have hg' := Lib.hid hg
        have a1 : ∀ w, (Op.stringOp .add (tx acc) { data := #[32] }).run Tryz.prog w = .ok (.string (tx (acc ++ [32]))) w := fun w => tx_cat acc [32] _ w (by simp; omega)
        have a2 : ∀ w, (Op.stringOp .add (tx (acc ++ [32])) (tx u)).run Tryz.prog w = .ok (.string (tx (acc ++ [32] ++ u))) w := fun w => tx_cat _ u _ w (by simp; omega)
        have a3 : ∀ w, (Op.stringOp .add (tx acc) (tx u)).run Tryz.prog w = .ok (.string (tx (acc ++ u))) w := fun w => tx_cat acc u _ w (by omega)
        have hTg := Lib.hid (fun (e : gap last u = [32]) => show (acc ++ [32] ++ u) ++ joinT u (l.drop (k + 1)) = J by rw [← hT2.out, e]; simp only [List.append_assoc])
        have hTn := Lib.hid (fun (e : gap last u = []) => show (acc ++ u) ++ joinT u (l.drop (k + 1)) = J by rw [← hT2.out, e]; simp only [List.append_assoc, List.nil_append])
        have hl1 : (acc ++ [32] ++ u).length ≤ 22 * (k + 1) := by simp; omega
        have hl2 : (acc ++ u).length ≤ 22 * (k + 1) := by simp; omega
        generalize tx (acc ++ [32]) = f1 at *
        obtain ⟨f2, hf2⟩ : ∃ f, tx (acc ++ [32] ++ u) = f := ⟨_, rfl⟩
        obtain ⟨f3, hf3⟩ : ∃ f, tx (acc ++ u) = f := ⟨_, rfl⟩
        rw [hf2] at a2
        rw [hf3] at a3
        have hf2' := Lib.hid hf2
        have hf3' := Lib.hid hf3
        clear hg hq hm1 hm2 hm3 hm4 ha he hgood hbad hwl hstep hT hf2 hf3 hsr' hT2
        cases a with
        | true =>
          have hT3 := Lib.hid (hTn.out (by rw [hg'.out]; rfl))
          clear hTg hTn hg'
          go_wp2_with fail
          go_roundw
          case rel => exact ⟨k + 1, u, acc ++ u, by go_num, by rw [hq'.out], by rw [hf3'.out], by omega, hl2, hG2, hT3, B1⟩
          case measure => simp [RowKit.intOf]; omega
        | false =>
          cases m1 with
          | true =>
            have hT3 := Lib.hid (hTn.out (by rw [hg'.out]; rfl))
            clear hTg hTn hg'
            go_wp2_with fail
            go_roundw
            case rel => exact ⟨k + 1, u, acc ++ u, by go_num, by rw [hq'.out], by rw [hf3'.out], by omega, hl2, hG2, hT3, B1⟩
            case measure => simp [RowKit.intOf]; omega
          | false =>
            cases m2 with
            | true =>
              have hT3 := Lib.hid (hTn.out (by rw [hg'.out]; rfl))
              clear hTg hTn hg'
              go_wp2_with fail
              go_roundw
              case rel => exact ⟨k + 1, u, acc ++ u, by go_num, by rw [hq'.out], by rw [hf3'.out], by omega, hl2, hG2, hT3, B1⟩
              case measure => simp [RowKit.intOf]; omega
            | false =>
              cases m3 with
              | true =>
                have hT3 := Lib.hid (hTn.out (by rw [hg'.out]; rfl))
                clear hTg hTn hg'
                go_wp2_with fail
                go_roundw
                case rel => exact ⟨k + 1, u, acc ++ u, by go_num, by rw [hq'.out], by rw [hf3'.out], by omega, hl2, hG2, hT3, B1⟩
                case measure => simp [RowKit.intOf]; omega
              | false =>
                cases m4 with
                | true =>
                  have hT3 := Lib.hid (hTn.out (by rw [hg'.out]; rfl))
                  clear hTg hTn hg'
                  go_wp2_with fail
                  go_roundw
                  case rel => exact ⟨k + 1, u, acc ++ u, by go_num, by rw [hq'.out], by rw [hf3'.out], by omega, hl2, hG2, hT3, B1⟩
                  case measure => simp [RowKit.intOf]; omega
                | false =>
                  have hT3 := Lib.hid (hTg.out (by rw [hg'.out]; rfl))
                  clear hTg hTn hg'
                  go_wp2_with fail
                  go_roundw
                  case rel => exact ⟨k + 1, u, acc ++ [32] ++ u, by go_num, by rw [hq'.out], by rw [hf2'.out], by omega, hl1, hG2, hT3, B1⟩
                  case measure => simp [RowKit.intOf]; omega
      · have v1 : (er == 0) = false := by simp [he]
        have v2 : (er != 0) = true := by simp [he]
        have hv : joinV l = ([], er) := by
          have := hbad.out he
          rw [hfar'.out, this, if_pos he]
        have hv' := Lib.hid hv
        clear he hv
        go_wp2_with fail
        go_ret2
        exact ⟨by rw [hv'.out]; rfl, B1.out⟩
    · obtain rfl : k = n := by omega
      have hJ1 : joinE l = 0 := joinE_all l (by rw [hn'.out]; exact hG.out)
      have hacc : acc = J := by
        have := hT.out
        rw [joinT_end last l k (by rw [hn'.out]; omega), List.append_nil] at this
        exact this
      have hsz := tx_size acc
      by_cases h16 : 16384 < acc.length
      · have hv : joinV l = ([], 4) := by rw [hfar'.out, hJ1, if_neg (by simp), hJ'.out, ← hacc, if_pos h16]
        have u1 : decide ((16384 : Int) < (acc.length : Int)) = true := by simp; omega
        have u2 : decide (16384 < acc.length) = true := by simp; omega
        have hv' := Lib.hid hv
        clear hv hacc hJ1 h16
        go_wp2_with fail
        try any_goals (exfalso; omega; done)
        go_ret2
        exact ⟨by rw [hv'.out]; rfl, hB.out⟩
      · have hv : joinV l = (acc, 0) := by rw [hfar'.out, hJ1, if_neg (by simp), hJ'.out, ← hacc, if_neg h16]
        have u1 : decide ((16384 : Int) < (acc.length : Int)) = false := by simp; omega
        have u2 : decide (16384 < acc.length) = false := by simp; omega
        have hv' := Lib.hid hv
        clear hv hacc hJ1 h16
        go_wp2_with fail
        try any_goals (exfalso; omega; done)
        go_ret2
        exact ⟨by rw [hv'.out]; rfl, hB.out⟩
theorem rjoin_any (v : Value) (l : List Tk) (w : World) (h : TksAt w v l) (ht : ∀ t ∈ l, t.t.length ≤ 9223372036854775807) (hl : l.length ≤ 9223372036854775807) : Calls Tryz.prog 49 #[v] w (JoinOut (joinV l) w) := by
  by_cases h4 : 4000 < l.length
  · exact rjoin_far v l w h h4 hl
  · exact rjoin_near v l w h ht (by omega)
end Go.Proofs.YtjmipikahaoblaaGreatDoor.Lx
