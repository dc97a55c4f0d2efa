/- The program's Valid, Count. -/
import Derived.Test.YtdehldcgakdobaaGreatDoorScPDom
import Derived.Test.YtdehldcgakdobaaGreatDoorScAwake
namespace Go.Proofs.YtdehldcgakdobaaGreatDoor.Sc
open Go.RowKit Go.Lib Go.Proofs.YtdehldcgakdobaaGreatDoor.Bas Go.Proofs.YtdehldcgakdobaaGreatDoor.Cal Go.Proofs.YtdehldcgakdobaaGreatDoor.Lx
set_option linter.unusedVariables false

theorem facts_out {L : List At} {f : List Int} {k : Nat} (hk : k < L.length) (h : inB (at' L k) (f.getD k 0) = false) : factsB L f = false := by
  unfold factsB
  apply decide_eq_false
  rintro ⟨_, _, h3⟩
  obtain ⟨h1, h2⟩ := h3 k hk
  unfold inB at h
  rw [decide_eq_true h1, decide_eq_true h2] at h
  cases h
theorem facts_yes {L : List At} {f : List Int} (h0 : schE L = 0) (h1 : f.length = L.length) (h : ∀ k, k < L.length → inB (at' L k) (f.getD k 0) = true) : factsB L f = true := by
  unfold factsB
  apply decide_eq_true
  refine ⟨h0, h1, fun k hk => ?_⟩
  have := h k hk
  unfold inB at this
  simpa using this
set_option maxRecDepth 8000 in
set_option maxHeartbeats 16000000 in
theorem pvalid_any (u : Value) (w : World) (L : List At) (vf : Value) (f : List Int) (h : AttsAt w u L) (hl : L.length ≤ 9223372036854775807) (hw : ∀ a ∈ L, AtWf a) (hI : IntsAt w vf f) (hlf : f.length ≤ 9223372036854775807) :
    Calls Tryz.prog 19 #[.agg #[u], vf] w (BoolBe (factsB L f) w) := by
  have B0 := Lib.hid (alloc_at w (.cells #[u] 25))
  have A0 := Lib.hid (h.below B0.out)
  have O0 := Lib.hid (OAt.new w u 25)
  have I0 := Lib.hid (hI.below B0.out)
  obtain ⟨p, c, rfl, _, _⟩ := h
  obtain ⟨pf, cf, rfl, _⟩ := hI
  have cV := Lib.hid (fun W hA => pval_any (.slice p L.length c) W L hA hl hw)
  have hF1 := Lib.hid (fun (h : ¬ f.length = L.length) => show factsB L f = false from decide_eq_false (fun hh => h hh.2.1))
  have hF0 := Lib.hid (fun (h : schE L ≠ 0) => show factsB L f = false from decide_eq_false (fun hh => h hh.1))
  have hF2 := Lib.hid (fun k (hk : k < L.length) (h : inB (at' L k) (f.getD k 0) = false) => facts_out hk h)
  have hF3 := Lib.hid (fun (h0 : schE L = 0) (h1 : f.length = L.length) h => facts_yes h0 h1 h)
  have hok := Lib.hid (fun (h : schE L = 0) k (hk : k < L.length) => (atE_ok L k ((schE_ok L h).2.2 k hk)).2)
  have hwf := Lib.hid (fun k (hk : k < L.length) => wf_at L hw k hk)
  obtain ⟨n, hn⟩ : ∃ n, L.length = n := ⟨_, rfl⟩
  obtain ⟨m, hm⟩ : ∃ m, f.length = m := ⟨_, rfl⟩
  have hn' := Lib.hid hn
  have hm' := Lib.hid hm
  rw [hn] at hl hF1 hF2 hF3 hok hwf B0 O0 A0 I0 cV ⊢
  rw [hm] at hlf hF1 hF3 I0 ⊢
  generalize factsB L f = E at *
  clear hn hm hw
  by_cases hnm : m = n
  · subst hnm
    generalize schE L = q at *
    go_enter Tryz.func19, Tryz.ntmps19
    go_upto_region 1 with fail
    obtain ⟨b0, hb0⟩ : ∃ b, w.heap.size = b := ⟨_, rfl⟩
    rw [hb0] at O0 ⊢
    clear hb0
    generalize w.alloc (.cells #[.slice p m c] 25) = W0 at *
    have x0 := O0.out.2
    have cX := Lib.hid (cV.out W0 A0.out)
    clear cV
    go_wp2_with fail
    refine cX.out.mono ?_; rintro e W1 ⟨rfl, hB1⟩
    have B1 := Lib.hid (trans_b B0.out hB1)
    have A1 := Lib.hid (A0.out.below hB1)
    have I1 := Lib.hid (I0.out.below hB1)
    have O1 := Lib.hid (O0.out.keep hB1)
    clear hB1 cX x0 A0 I0 O0 B0
    by_cases hq : q = 0
    · subst hq
      have x0 := O1.out.2
      go_wp2_with fail
      clear x0
      go_loopw [20] (fun i wr => ∃ k : Nat, k ≤ m ∧ i = .int .i64 k ∧ Hid (Below W1.heap.size W1 wr) ∧ Hid (∀ j, j < k → inB (at' L j) (f.getD j 0) = true)) (fun i _ => m - (RowKit.intOf i).toNat)
      case atStart => exact ⟨0, Nat.zero_le _, rfl, Lib.hid (Below.refl _ _), Lib.hid (fun j hj => absurd hj (Nat.not_lt_zero _))⟩
      case round =>
        obtain ⟨k, hk, rfl, hB, hZ⟩ := hrel
        by_cases hlt : k < m
        · have x0 := (O1.out.keep hB.out).2
          obtain ⟨p', c', hv, _, hp⟩ := A1.out.below hB.out
          obtain ⟨b, off, hpb, hc⟩ := hp (by rw [hn'.out]; omega)
          obtain rfl : p' = p := by cases hv; rfl
          subst hpb
          obtain ⟨y0, y1, ⟨uk, y2, hS⟩, y3, y4⟩ := hc k (by rw [hn'.out]; exact hlt)
          have cC := Lib.hid (pcontains_any (at' L k) uk (f.getD k 0) wr hS (hwf.out k hlt) (hok.out (by trivial) k hlt))
          obtain ⟨pk, ck, rfl, _, _⟩ := hS
          obtain ⟨pf2, cf2, hv2, hp2⟩ := I1.out.below hB.out
          obtain ⟨bf, of, hpb2, hcf⟩ := hp2 (by rw [hm'.out]; omega)
          obtain rfl : pf2 = pf := by cases hv2; rfl
          subst hpb2
          have hz := hcf k (by rw [hm'.out]; exact hlt)
          clear hv hp hc hv2 hp2 hcf
          have hno := Lib.hid (hF2.out k hlt)
          have hye := Lib.hid (fun (h : inB (at' L k) (f.getD k 0) = true) => (show ∀ j, j < k + 1 → inB (at' L j) (f.getD j 0) = true from fun j hj => by
            by_cases e : j = k
            · rw [e]; exact h
            · exact hZ.out j (by omega)))
          unfold AtV at cC
          generalize inB (at' L k) (f.getD k 0) = r at *
          generalize f.getD k 0 = z at *
          generalize tx (at' L k).nm = nm at *
          generalize (at' L k).k = kk at *
          generalize (at' L k).lo = lo at *
          generalize (at' L k).hi = hi at *
          generalize (at' L k).ws.length = nk at *
          have hk64 : IntKind.i64.wrap ((k : Int) + 1) = (k : Int) + 1 := IntWalk.i64_in _ (by omega)
          go_wp2_with fail
          refine cC.out.mono ?_; rintro e W2 ⟨rfl, hB2⟩
          have B2 := Lib.hid (hB.out.trans (hB2.mono hB.out.size))
          clear hB2 cC x0 y0 y1 y2 y3 y4 hz
          cases r with
          | true =>
            have hZ2 := Lib.hid (hye.out rfl)
            clear hye hno hZ
            go_wp2_with fail
            go_roundw
            case rel => exact ⟨k + 1, by omega, by go_num, B2, hZ2⟩
            case measure => simp [RowKit.intOf]; omega
          | false =>
            have hE := Lib.hid (hno.out rfl)
            clear hye hno hZ
            go_wp2_with fail
            go_ret
            exact ⟨ret_b hE.out.symm, trans_b B1.out B2.out⟩
        · obtain rfl : k = m := by omega
          have hE := Lib.hid (hF3.out (by trivial) (by trivial) hZ.out)
          go_wp2_with fail
          go_ret
          exact ⟨ret_b hE.out.symm, trans_b B1.out hB.out⟩
    · have t1 : (q == 0) = false := by simpa using hq
      have hE := Lib.hid (hF0.out hq)
      clear hq
      go_wp2_with fail
      go_ret
      exact ⟨ret_b hE.out.symm, B1.out⟩
  · have t1 : ((m : Int) == (n : Int)) = false := by simp; omega
    have t2 : (m == n) = false := by simpa using hnm
    have hE := Lib.hid (hF1.out hnm)
    go_enter Tryz.func19, Tryz.ntmps19
    go_upto_region 1 with fail
    obtain ⟨b0, hb0⟩ : ∃ b, w.heap.size = b := ⟨_, rfl⟩
    rw [hb0] at O0 ⊢
    clear hb0
    generalize w.alloc (.cells #[.slice p n c] 25) = W0 at *
    have x0 := O0.out.2
    go_wp2_with fail
    try any_goals (exfalso; omega; done)
    all_goals (go_ret; exact ⟨ret_b hE.out.symm, B0.out⟩)
/-- The number of facts of the first k attributes. -/
def szV (a : At) : Int := (domV a).2 - (domV a).1 + 1
def cntT (L : List At) (k : Nat) : Int := (L.take k).foldl (fun n a => timesV n (szV a)) 1
theorem cntT_succ (L : List At) (k : Nat) (h : k < L.length) : cntT L (k + 1) = timesV (cntT L k) (szV (at' L k)) := by
  unfold cntT
  rw [List.take_succ_eq_append_getElem h, List.foldl_append, at_at L k h]
  rfl
theorem szV_bd (a : At) (h : attE a = 0) : 1 ≤ szV a ∧ szV a ≤ 2000000001 := by
  have := domV_bd a h
  unfold szV
  omega
theorem timesV_bd (a b : Int) (ha : 1 ≤ a) (hb : 1 ≤ b) : 1 ≤ timesV a b ∧ timesV a b ≤ 17592186044416 := by
  unfold timesV
  have : 1 ≤ a * b := by
    have := Int.mul_le_mul ha hb (by omega) (by omega)
    omega
  split <;> omega
theorem cntT_bd (L : List At) (h : ∀ k, k < L.length → attE (at' L k) = 0) : ∀ k, k ≤ L.length → 1 ≤ cntT L k ∧ cntT L k ≤ 17592186044416 := by
  intro k
  induction k with
  | zero => intro _; rw [show cntT L 0 = 1 from rfl]; exact ⟨by decide, by decide⟩
  | succ k ih =>
    intro hk
    rw [cntT_succ L k (by omega)]
    exact timesV_bd _ _ (ih (by omega)).1 (szV_bd _ (h k (by omega))).1
theorem timesV_top (b : Int) (hb : 1 ≤ b) : timesV 17592186044416 b = 17592186044416 := by
  unfold timesV
  split
  · rfl
  · rename_i h
    have := Int.mul_le_mul_of_nonneg_left hb (show (0 : Int) ≤ 17592186044416 by decide)
    omega
theorem cntT_top (L : List At) (h : ∀ k, k < L.length → attE (at' L k) = 0) (k : Nat) (hk : cntT L k = 17592186044416) : ∀ j, k + j ≤ L.length → cntT L (k + j) = 17592186044416 := by
  intro j
  induction j with
  | zero => intro _; exact hk
  | succ j ih =>
    intro hj
    rw [show k + (j + 1) = (k + j) + 1 from rfl, cntT_succ L (k + j) (by omega), ih (by omega)]
    exact timesV_top _ (szV_bd _ (h _ (by omega))).1
theorem cntV_ok (L : List At) (h : schE L = 0) : cntV L = cntT L L.length := by
  unfold cntV cntT
  rw [if_neg (by rw [h]; simp), List.take_length]
  rfl
/-- The program's test: the quotient tells whether the product is too large. -/
theorem quo_test (n s : Int) (hn : 1 ≤ n) (hs : 1 ≤ s) : (17592186044416 / n < s → timesV n s = 17592186044416) ∧ (¬ 17592186044416 / n < s → timesV n s = n * s ∧ n * s ≤ 17592186044416) := by
  unfold timesV
  constructor
  · intro h
    have : 17592186044416 < s * n := (Int.ediv_lt_iff_lt_mul (by omega)).1 h
    rw [if_pos (by rw [Int.mul_comm]; exact this)]
  · intro h
    have : s * n ≤ 17592186044416 := (Int.le_ediv_iff_mul_le (by omega)).1 (by omega)
    rw [Int.mul_comm] at this
    exact ⟨if_neg (by omega), this⟩
theorem quo_bd (n : Int) (hn : 1 ≤ n) : 0 ≤ 17592186044416 / n ∧ 17592186044416 / n ≤ 17592186044416 := ⟨Int.ediv_nonneg (by decide) (by omega), Int.ediv_le_self _ (by decide)⟩
set_option maxRecDepth 8000 in
set_option maxHeartbeats 16000000 in
theorem pcount_any (u : Value) (w : World) (L : List At) (h : AttsAt w u L) (hl : L.length ≤ 9223372036854775807) (hw : ∀ a ∈ L, AtWf a) : Calls Tryz.prog 25 #[.agg #[u]] w (ErrBe (cntV L) w) := by
  have B0 := Lib.hid (alloc_at w (.cells #[u] 25))
  have A0 := Lib.hid (h.below B0.out)
  have O0 := Lib.hid (OAt.new w u 25)
  obtain ⟨p, c, rfl, _, _⟩ := h
  have cV := Lib.hid (fun W hA => pval_any (.slice p L.length c) W L hA hl hw)
  have hok := Lib.hid (fun (h : schE L = 0) k (hk : k < L.length) => (atE_ok L k ((schE_ok L h).2.2 k hk)).2)
  have hwf := Lib.hid (fun k (hk : k < L.length) => wf_at L hw k hk)
  have hC0 := Lib.hid (fun (h : schE L ≠ 0) => show cntV L = 0 from if_pos h)
  have hC1 := Lib.hid (cntV_ok L)
  have hbd := Lib.hid (cntT_bd L)
  have htop := Lib.hid (cntT_top L)
  have hsu := Lib.hid (cntT_succ L)
  obtain ⟨n, hn⟩ : ∃ n, L.length = n := ⟨_, rfl⟩
  have hn' := Lib.hid hn
  rw [hn] at hl hok hwf hC1 hbd htop hsu B0 O0 A0 cV ⊢
  generalize cntV L = C at *
  generalize schE L = q at *
  clear hn hw
  go_enter Tryz.func25, Tryz.ntmps25
  go_upto_region 1 with fail
  obtain ⟨b0, hb0⟩ : ∃ b, w.heap.size = b := ⟨_, rfl⟩
  rw [hb0] at O0 ⊢
  clear hb0
  generalize w.alloc (.cells #[.slice p n c] 25) = W0 at *
  have x0 := O0.out.2
  have cX := Lib.hid (cV.out W0 A0.out)
  clear cV
  go_wp2_with fail
  refine cX.out.mono ?_; rintro e W1 ⟨rfl, hB1⟩
  have B1 := Lib.hid (trans_b B0.out hB1)
  have A1 := Lib.hid (A0.out.below hB1)
  have O1 := Lib.hid (O0.out.keep hB1)
  clear hB1 cX x0 A0 O0 B0
  by_cases hq : q = 0
  · have hat := Lib.hid (hok.out hq)
    have hC := Lib.hid (hC1.out hq)
    have hbd' := Lib.hid (hbd.out hat.out)
    have htop' := Lib.hid (htop.out hat.out)
    subst hq
    clear hok hC0 hC1 hbd htop
    have x0 := O1.out.2
    go_wp2_with fail
    clear x0
    go_loopw [3, 15] (fun x3 i wr => ∃ k : Nat, k ≤ n ∧ i = .int .i64 k ∧ x3 = .int .i64 (cntT L k) ∧ Hid (Below W1.heap.size W1 wr)) (fun _ i _ => n - (RowKit.intOf i).toNat)
    case atStart => exact ⟨0, Nat.zero_le _, rfl, rfl, Lib.hid (Below.refl _ _)⟩
    case round =>
      obtain ⟨k, hk, rfl, rfl, hB⟩ := hrel
      obtain ⟨g1, g2⟩ := hbd'.out k hk
      by_cases hlt : k < n
      · obtain ⟨p', c', hv, _, hp⟩ := A1.out.below hB.out
        obtain ⟨b, off, hpb, hc⟩ := hp (by rw [hn'.out]; omega)
        obtain rfl : p' = p := by cases hv; rfl
        subst hpb
        obtain ⟨y0, y1, ⟨uk, y2, hS⟩, y3, y4⟩ := hc k (by rw [hn'.out]; exact hlt)
        have hal := alloc_at wr (.cells #[.string (tx (at' L k).nm), .int .i64 (at' L k).k, uk, .int .i64 (at' L k).lo, .int .i64 (at' L k).hi] 43)
        have cD := Lib.hid (pdom_any (at' L k) uk _ (hS.below hal) (hwf.out k hlt) (hat.out k hlt))
        have B2 := Lib.hid (hB.out.alloc hB.out.size (.cells #[.string (tx (at' L k).nm), .int .i64 (at' L k).k, uk, .int .i64 (at' L k).lo, .int .i64 (at' L k).hi] 43))
        have K2 := Lib.hid (AAt.new wr (at' L k) uk 43)
        obtain ⟨pk, ck, rfl, _, _⟩ := hS
        clear hv hp hc hal
        obtain ⟨s1, s2⟩ := szV_bd _ (hat.out k hlt)
        have hdb := domV_bd _ (hat.out k hlt)
        obtain ⟨qt1, qt2⟩ := quo_test (cntT L k) (szV (at' L k)) g1 s1
        have hsz : szV (at' L k) = (domV (at' L k)).2 - (domV (at' L k)).1 + 1 := rfl
        have hs1 := hsu.out k hlt
        have e1 := Lib.hid (fun (h : timesV (cntT L k) (szV (at' L k)) = 17592186044416) => show C = 17592186044416 by
          rw [hC.out]
          have := htop'.out (k + 1) (by rw [hs1]; exact h) (n - (k + 1)) (by omega)
          rw [show k + 1 + (n - (k + 1)) = n by omega] at this
          exact this)
        unfold AtV at cD
        go_upto_region 7 with fail
        clear y0 y1 y2 y3 y4
        obtain ⟨b4, hb4⟩ : ∃ b, wr.heap.size = b := ⟨_, rfl⟩
        rw [hb4] at K2 ⊢
        clear hb4
        generalize wr.alloc (.cells #[.string (tx (at' L k).nm), .int .i64 (at' L k).k, .slice pk (at' L k).ws.length ck, .int .i64 (at' L k).lo, .int .i64 (at' L k).hi] 43) = W2 at *
        obtain ⟨_, z0, z1, z2, z3, z4⟩ := K2.out
        generalize szV (at' L k) = s at *
        generalize domV (at' L k) = d at *
        obtain ⟨d1, d2⟩ := d
        simp only at hsz hdb
        generalize cntT L k = N0 at *
        have hk64 : IntKind.i64.wrap ((k : Int) + 1) = (k : Int) + 1 := IntWalk.i64_in _ (by omega)
        have w1 : IntKind.i64.wrap (d2 - d1) = d2 - d1 := IntWalk.i64_in _ (by omega)
        have w2 : IntKind.i64.wrap (d2 - d1 + 1) = s := by rw [hsz]; exact IntWalk.i64_in _ (by omega)
        have hz0 : (N0 == 0) = false := by simp; omega
        have hqd := quo_bd N0 g1
        go_wp2_with fail
        refine cD.out.mono ?_; rintro e W3 ⟨rfl, hB3⟩
        have B3 := Lib.hid (B2.out.trans (hB3.mono B2.out.size))
        clear hB3 cD z0 z1 z2 z3 z4
        have hsz' := Lib.hid hsz
        clear hsz
        by_cases ht : 17592186044416 / N0 < s
        · have hC2 := Lib.hid (e1.out (qt1 ht))
          have t1 : decide (17592186044416 / N0 < s) = true := by simpa using ht
          clear qt1 qt2 e1
          go_wp2_with fail
          try any_goals (exfalso; omega; done)
          go_ret
          exact ⟨ret_i hC2.out.symm, trans_b B1.out B3.out⟩
        · obtain ⟨hP1, hP2⟩ := qt2 (by omega)
          have t1 : decide (17592186044416 / N0 < s) = false := by simpa using ht
          have hP3 : 0 ≤ N0 * s := Int.mul_nonneg (by omega) (by omega)
          have hP1' := Lib.hid hP1
          have hs1' := Lib.hid hs1
          clear qt1 qt2 e1 hP1 hs1
          go_wp2_with fail
          try any_goals (exfalso; omega; done)
          go_roundw
          case rel => exact ⟨k + 1, by omega, by go_num, by rw [hs1'.out, hP1'.out], B3⟩
          case measure => simp [RowKit.intOf]; omega
      · obtain rfl : k = n := by omega
        go_wp2_with fail
        go_ret
        exact ⟨ret_i hC.out.symm, trans_b B1.out hB.out⟩
  · have t1 : (q == 0) = false := by simpa using hq
    have hC := Lib.hid (hC0.out hq)
    clear hq
    go_wp2_with fail
    go_ret
    exact ⟨ret_i hC.out.symm, B1.out⟩
end Go.Proofs.YtdehldcgakdobaaGreatDoor.Sc
