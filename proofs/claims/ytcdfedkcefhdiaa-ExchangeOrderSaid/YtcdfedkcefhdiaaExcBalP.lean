/- balance and combine of package exchange; Normalize, Add, Sub. -/
import Derived.Test.YtcdfedkcefhdiaaExcCol
namespace Go.Proofs.Ytcdfedkcefhdiaa.Exc
open Go.RowKit Go.Lib Go.Maps Go.Proofs.Ytcdfedkcefhdiaa.Bas Go.Proofs.Ytcdfedkcefhdiaa.Spl Go.Proofs.Ytcdfedkcefhdiaa.Dk Go.Proofs.Ytcdfedkcefhdiaa.Mp
set_option linter.unusedVariables false

/-- The balance of sums. -/
def balG (f : Int → Int) : Nat → List Cs
  | 0 => []
  | k + 1 => if f k = 0 then balG f k else balG f k ++ [⟨(k : Int), f k⟩]
def okG (f : Int → Int) (k : Nat) : Prop := ∀ c : Nat, c < k → okI (f c)
theorem balG_K (l : List Cs) (k : Nat) : balG (totC l) k = balK l k := by
  induction k with
  | zero => rfl
  | succ k ih => unfold balG balK; rw [ih]
theorem balG_length (f : Int → Int) (k : Nat) : (balG f k).length ≤ k := by
  induction k with
  | zero => simp [balG]
  | succ k ih =>
    unfold balG
    split
    · omega
    · rw [List.length_append, List.length_singleton]; omega
set_option maxHeartbeats 8000000 in
theorem balance_all (m k0 : Nat) (f : Int → Int) (W : World) (hM : MapF W m k0 f) (hf : ∀ c, -1152921504606846976 ≤ f c ∧ f c ≤ 1152921504606846976) (NL : List Cs) (NR : Int)
    (hgood : okG f 16 → (balG f 16, 0) = (NL, NR)) (hover : ¬ okG f 16 → ([], 3) = (NL, NR)) :
    Calls Try.prog 45 #[.map (some m)] W (CsOut NL NR W) := by
  have cva := Lib.hid avalid_any
  have hM0 := Lib.hid hM
  have hf' := Lib.hid hf
  have hmlt := hM.lt
  have hgood' := Lib.hid hgood
  have hover' := Lib.hid hover
  clear hM hf hgood hover
  go_enter Try.func45, Try.ntmps45
  go_wp2_with fail
  go_loopw [4, 7] (fun v4 c7 wr => ∃ cu : Nat, cu ≤ 16 ∧ c7 = .int .i64 cu ∧ Hid (okG f cu) ∧ Hid (CRow W.heap.size wr v4 (balG f cu)) ∧ Hid (Below W.heap.size W wr)) (fun _ c _ => 16 - (RowKit.intOf c).toNat)
  case atStart => exact ⟨0, by omega, rfl, Lib.hid (fun c hc => by omega), Lib.hid (crow_nil _ _), Lib.hid (Below.refl _ _)⟩
  case round =>
    obtain ⟨cu, hcu, rfl, hO, hR, hB⟩ := hrel
    by_cases hc16 : cu < 16
    · have hbal := Lib.hid (show balG f (cu + 1) = if f cu = 0 then balG f cu else balG f cu ++ [⟨(cu : Int), f cu⟩] from rfl)
      have hfc := hf'.out cu
      have hOs := Lib.hid (fun (h : okI (f cu)) => (fun c hc => by
        by_cases e : c < cu
        · exact hO.out c e
        · obtain rfl : c = cu := by omega
          exact h : okG f (cu + 1)))
      have hNo := Lib.hid (fun (h : ¬ okI (f cu)) => hover'.out fun g => h (g cu (by omega)))
      obtain ⟨D, hD, hown⟩ := (hM0.out.below hB.out hmlt)
      have hD' := Lib.hid hD
      have hown' := Lib.hid hown
      have hlen := balG_length f cu
      have hkey : keyOf Try.prog 3 (.int .i64 cu) = some (.int .i64 cu) := keyOf_int_mk Try.underlying3 (WalkArith.wf_i64 (by omega))
      clear hD hown
      generalize hX : f cu = X at *
      have hX' := Lib.hid hX
      obtain ⟨x1, x2⟩ := hfc
      clear hX
      have u1 : decide ((cu : Int) < 16) = true := decide_eq_true (by omega)
      go_wp2_with (at_lookup; refine wpList_lookup_own_int _ rfl _ _ 62 rfl 3 3 .i64 lawI Try.underlying62 Try.underlying3 (zeroI _) m k0 D rfl hown'.out _ _ rfl hkey ?_; intro cv hat hwc; obtain rfl : cv = X := by rw [← hX'.out]; exact hD'.out.val hat)
      refine (cva.out _ _ _ rfl).mono ?_; rintro e w' ⟨rfl, rfl⟩
      by_cases hv : okI cv
      · rw [show okB cv = true from decide_eq_true hv]
        have hO2 := Lib.hid (hOs.out hv)
        clear hv hwc hat
        by_cases hx0 : cv = 0
        · have t3 : (cv == 0) = true := by simp [hx0]
          have t4 : (cv != 0) = false := by simp [hx0]
          have hb2 : Hid (balG f (cu + 1) = balG f cu) := Lib.hid (by rw [hbal.out, if_pos hx0])
          clear hx0
          go_wp2_with fail
          go_roundw
          case rel => exact ⟨cu + 1, by omega, by go_num, hO2, Lib.hid (by rw [hb2.out]; exact hR.out), hB⟩
          case measure => simp [RowKit.intOf]; omega
        · have t3 : (cv == 0) = false := by simp [hx0]
          have t4 : (cv != 0) = true := by simp [hx0]
          have hb2 : Hid (balG f (cu + 1) = balG f cu ++ [⟨(cu : Int), cv⟩]) := Lib.hid (by rw [hbal.out, if_neg hx0])
          clear hx0
          have hsz := hB.out.size
          have hR1 := hR.out.alloc (.cells #[.int .i64 (cu : Int), .int .i64 cv] 40)
          have hB1 := hB.out.trans ((alloc1 wr (.cells #[.int .i64 (cu : Int), .int .i64 cv] 40)).mono hB.out.size)
          have hone := cash_one wr ⟨(cu : Int), cv⟩
          have hR2 := Lib.hid hR1
          have hB2 := Lib.hid hB1
          have ho2 := Lib.hid hone
          have hs2 := Lib.hid hB1.size
          have hl2 := Lib.hid hlen
          clear hR1 hB1 hone hlen hsz
          go_wp2_with (at_builtin; refine wpList_append_cash rfl (.tmp 18) (.tmp 22) rfl W.heap.size u4 (balG f cu) rfl hR2.out _ [⟨(cu : Int), cv⟩] rfl ho2.out (by have := hl2.out; simp; omega) hs2.out ?_; intro v' W3 hown hgrow)
          rw [← hb2.out] at hown
          have b3 := Lib.hid (hB2.out.grown hgrow hs2.out (fun g hg => (World.ownsRow.lt hR2.out g hg).1))
          exact ⟨⟨cu + 1, by omega, by go_num, hO2, Lib.hid hown, b3⟩, by simp [RowKit.intOf]; omega⟩
      · have hfin := Lib.hid (hNo.out hv)
        rw [show okB cv = false from decide_eq_false hv]
        clear hv hwc hat
        have e1 := Lib.hid (Prod.mk.inj hfin.out).1
        have e2 := Lib.hid (Prod.mk.inj hfin.out).2
        have hend : CsOut NL NR W (.returned (.tuple #[.slice none 0 0, .int .i64 3])) wr := by rw [← e1.out, ← e2.out]; exact CsOut.none 3 W wr hB.out
        have hend' := Lib.hid hend
        clear hend
        go_wp2_with fail
        go_ret2
        exact hend'.out
    · obtain rfl : cu = 16 := by omega
      have hfin := Lib.hid (hgood'.out hO.out)
      have e1 := Lib.hid (Prod.mk.inj hfin.out).1
      have e2 := Lib.hid (Prod.mk.inj hfin.out).2
      have hend : CsOut NL NR W (.returned (.tuple #[u4, .int .i64 0])) wr := by rw [← e1.out, ← e2.out]; exact ⟨_, rfl, hR.out, hB.out⟩
      have hend' := Lib.hid hend
      clear hend hc16
      go_wp2_with fail
      go_ret2
      exact hend'.out

theorem fst0_add (e : Nat → Int) (n m : Nat) : fst0 e (n + m) = if fst0 e n ≠ 0 then fst0 e n else fst0 (fun i => e (n + i)) m := by
  induction m with
  | zero =>
    show fst0 e n = _
    split
    · rfl
    · rename_i h; exact Classical.not_not.1 h
  | succ m ih =>
    show fst0 e (n + m + 1) = _
    rw [fst0_succ, ih]
    by_cases h : fst0 e n ≠ 0
    · rw [if_pos h, if_pos h, if_neg h]
    · rw [if_neg h, if_neg h]; rfl
theorem ce_neg (p q : List Cs) (s : Int) (hs : s = 1 ∨ s = -1) (i : Nat) (hi : i < q.length) : ce (joinV p q s) (p.length + i) = ce q i := by
  unfold ce
  have e : cs (joinV p q s) (p.length + i) = negC s (cs q i) := by
    unfold joinV
    rw [cs_at _ _ (by simp; omega), List.getElem_append_right (by omega), cs_at q i hi]
    simp
  rw [e]
  by_cases h : okI (cs q i).a
  · rw [negC_yes s _ h]
    have h2 : okI (s * (cs q i).a) := by unfold okI at *; rcases hs with rfl | rfl <;> omega
    show (if (cs q i).c < 0 ∨ 15 < (cs q i).c then 15 else if ¬ okI (s * (cs q i).a) then 1 else 0) = _
    rw [if_neg (show ¬ ¬ okI (s * (cs q i).a) by simpa using h2), if_neg (show ¬ ¬ okI (cs q i).a by simpa using h)]
  · rw [negC_no s _ h]
theorem fst0_join (p q : List Cs) (s : Int) (hs : s = 1 ∨ s = -1) : fst0 (ce (joinV p q s)) (joinV p q s).length = if fst0 (ce p) p.length ≠ 0 then fst0 (ce p) p.length else fst0 (ce q) q.length := by
  rw [joinV_length, fst0_add, fst0_congr (ce (joinV p q s)) (ce p) p.length, fst0_congr (fun i => ce (joinV p q s) (p.length + i)) (ce q) q.length]
  · intro i hi; exact ce_neg p q s hs i hi
  · intro i hi
    unfold ce joinV
    rw [cs_append p _ i hi]
theorem ce_ok (l : List Cs) (k : Nat) (h : fst0 (ce l) k = 0) : ∀ i, i < k → okI (cs l i).a := fun i hi => by
  have := (fst0_zero (ce l) k).1 h i hi
  unfold ce at this
  split at this
  · cases this
  · split at this
    · cases this
    · rename_i h; exact Classical.not_not.1 h
theorem totC_neg (B : List Cs) (s c : Int) (h : ∀ p ∈ B, okI p.a) : totC (B.map (negC s)) c = s * totC B c := by
  induction B with
  | nil => simp [totC_nil]
  | cons x r ih =>
    rw [List.map_cons, totC_cons, totC_cons, ih fun p hp => h p (by simp [hp]), negC_yes s x (h x (by simp))]
    show (if x.c = c then s * x.a else 0) + s * totC r c = _
    rw [Int.mul_add]
    split
    · rfl
    · rw [Int.mul_zero]
theorem all_ok (l : List Cs) (h : ∀ i, i < l.length → okI (cs l i).a) : ∀ p ∈ l, okI p.a := fun p hp => by
  obtain ⟨i, hi, rfl⟩ := List.getElem_of_mem hp
  have := h i hi
  rw [cs_at l i hi] at this; exact this
theorem totC_join (p q : List Cs) (s c : Int) (h : ∀ i, i < q.length → okI (cs q i).a) : totC (joinV p q s) c = totC p c + s * totC q c := by
  unfold joinV; rw [totC_append, totC_neg q s c (all_ok q h)]

theorem comb_long (v u : Value) (p q : List Cs) (s : Int) (w : World) (hp : CashAt w v p) (hq : CashAt w u q) (hl : 65536 < p.length + q.length) (hm : p.length + q.length ≤ 9223372036854775807) :
    Calls Try.prog 35 #[v, u, .int .i64 s] w (CsOut [] 4 w) := by
  obtain ⟨p1, c1, rfl, -, -⟩ := hp
  obtain ⟨p2, c2, rfl, -, -⟩ := hq
  have t1 : decide (65536 < (p.length : Int) + (q.length : Int)) = true := by simp; omega
  have t2 : decide (65536 < p.length + q.length) = true := by simp; omega
  have t3 : (p.length : Int) + (q.length : Int) ≤ 9223372036854775807 := by omega
  have hfin := Lib.hid (CsOut.none 4 w w (Below.refl _ _))
  go_enter Try.func35, Try.ntmps35
  go_wp2_with fail
  go_ret2
  exact hfin.out
set_option maxHeartbeats 8000000 in
theorem comb_short (v u : Value) (p q : List Cs) (s : Int) (hs : s = 1 ∨ s = -1) (w : World) (hp : CashAt w v p) (hq : CashAt w u q) (hl : p.length + q.length ≤ 65536) :
    Calls Try.prog 35 #[v, u, .int .i64 s] w (CsOut (normV (joinV p q s)).1 (normV (joinV p q s)).2 w) := by
  have hJ := joinV_length p q s
  have hfj := fst0_join p q s hs
  have hM0 := Lib.hid (MapF.made w)
  have hBa := Lib.hid (alloc1 w (.map #[] 0))
  have cp := Lib.hid (collect_any 1 (.inl rfl) v p w _ hp hBa.out (fun _ => 0) 0 0 hM0.out (by omega) (fun c => by simp) (by omega))
  have cq := Lib.hid (fun W f k0 M (hB : Below w.heap.size w W) => collect_any s hs u q w W hq hB f k0 M)
  have hbadP : fst0 (ce p) p.length ≠ 0 → normV (joinV p q s) = ([], fst0 (ce p) p.length) := fun e => by
    have hfq : fst0 (ce (joinV p q s)) (joinV p q s).length = fst0 (ce p) p.length := by rw [hfj, if_pos e]
    unfold normV; rw [if_neg (by omega), hfq, if_pos e]
  have hbadQ : fst0 (ce p) p.length = 0 → fst0 (ce q) q.length ≠ 0 → normV (joinV p q s) = ([], fst0 (ce q) q.length) := fun e g => by
    have hfq : fst0 (ce (joinV p q s)) (joinV p q s).length = fst0 (ce q) q.length := by rw [hfj, if_neg (by simp [e])]
    unfold normV; rw [if_neg (by omega), hfq, if_pos g]
  have hrest : fst0 (ce p) p.length = 0 → fst0 (ce q) q.length = 0 → normV (joinV p q s) = if okK (joinV p q s) 16 then (balK (joinV p q s) 16, 0) else ([], 3) := fun e g => by
    have hfq : fst0 (ce (joinV p q s)) (joinV p q s).length = fst0 (ce q) q.length := by rw [hfj, if_neg (by simp [e])]
    unfold normV; rw [if_neg (by omega), hfq, if_neg (by simp [g])]
  obtain ⟨p1, c1, rfl, -, -⟩ := hp
  obtain ⟨p2, c2, rfl, -, -⟩ := hq
  have t1 : decide (65536 < (p.length : Int) + (q.length : Int)) = false := by simp; omega
  have t2 : decide (65536 < p.length + q.length) = false := by simp; omega
  have t3 : (p.length : Int) + (q.length : Int) ≤ 65536 := by omega
  have hb1 := Lib.hid hbadP
  have hb2 := Lib.hid hbadQ
  have hb3 := Lib.hid hrest
  have hmm := @run_makeMap Try.prog
  clear hJ hfj hbadP hbadQ hrest
  generalize hNV : normV (joinV p q s) = NV at *
  obtain ⟨NL, NR⟩ := NV
  clear hNV
  generalize hrp : fst0 (ce p) p.length = rp at *
  generalize hrq : fst0 (ce q) q.length = rq at *
  have hrp' := Lib.hid hrp
  have hrq' := Lib.hid hrq
  clear hrp hrq
  go_enter Try.func35, Try.ntmps35
  go_wp2_with fail
  refine cp.out.mono ?_; rintro e W1 ⟨rfl, hB, hM⟩
  have B1 := Lib.hid (hBa.out.trans hB)
  have M1 := Lib.hid hM
  clear hB hM cp hmm
  by_cases e0 : rp = 0
  · subst e0
    have M2 := Lib.hid (M1.out rfl)
    have hbp := Lib.hid (fun c => sumC_bd p c p.length (ce_ok p _ hrp'.out))
    have cq1 := cq.out W1 (accF (fun _ => 0) p 1 p.length) (0 + p.length) p.length B1.out M2.out (by omega) (fun c => by
      have := hbp.out c
      show -((p.length : Int) * 17592186044416) ≤ 0 + 1 * sumC p c p.length ∧ 0 + 1 * sumC p c p.length ≤ (p.length : Int) * 17592186044416
      omega) hl
    have cq2 := Lib.hid cq1
    clear cq1 cq M1 hb1
    go_wp2_with fail
    refine cq2.out.mono ?_; rintro e W2 ⟨rfl, hB, hM⟩
    have B2 := Lib.hid (B1.out.trans hB)
    have M3 := Lib.hid hM
    clear hB hM cq2
    by_cases e1 : rq = 0
    · subst e1
      have M4 := Lib.hid (M3.out rfl)
      have hbq := Lib.hid (fun c => sumC_bd q c q.length (ce_ok q _ hrq'.out))
      have hT := Lib.hid (fun c => totC_join p q s c (ce_ok q _ hrq'.out))
      have hTs := Lib.hid (fun c => show accF (accF (fun _ => 0) p 1 p.length) q s q.length c = totC (joinV p q s) c by
        rw [hT.out c]; unfold accF totC; rw [Int.one_mul, Int.zero_add])
      have cb := Lib.hid (balance_all w.heap.size _ (totC (joinV p q s)) W2 (M4.out.congr hTs.out) (fun c => by
        have a := hbp.out c
        have b := hbq.out c
        have := hT.out c
        have t1 : totC p c = sumC p c p.length := rfl
        have t2 : totC q c = sumC q c q.length := rfl
        rcases hs with rfl | rfl <;> omega) NL NR (fun h => by
          have h2 : okK (joinV p q s) 16 := h
          have := hb3.out (by trivial) (by trivial)
          rw [if_pos h2] at this
          rw [balG_K]; exact this.symm) (fun h => by
          have h2 : ¬ okK (joinV p q s) 16 := h
          have := hb3.out (by trivial) (by trivial)
          rw [if_neg h2] at this
          exact this.symm))
      clear M3 M4 hbq hbp hT hTs hb2 hb3 M2
      go_wp2_with fail
      refine cb.out.mono ?_; rintro e W3 ⟨r, rfl, hR, hB⟩
      have hfin := Lib.hid (show CsOut NL NR w (.returned (.tuple #[r, .int .i64 NR])) W3 from ⟨_, rfl, hR.mono B2.out.size, B2.out.trans (hB.mono B2.out.size)⟩)
      clear hR hB cb
      go_wp2_with fail
      go_ret2
      exact hfin.out
    · have u1 : (rq == 0) = false := by simp [e1]
      have u2 : (rq != 0) = true := by simp [e1]
      have hx := hb2.out (by trivial) e1
      have x1 := (Prod.mk.inj hx).1
      have x2 := (Prod.mk.inj hx).2
      have hfin := Lib.hid (show CsOut NL NR w (.returned (.tuple #[.slice none 0 0, .int .i64 rq])) W2 by rw [x1, x2]; exact CsOut.none rq w W2 B2.out)
      clear e1 hx x1 x2 M3 hb2 hb3
      go_wp2_with fail
      go_ret2
      exact hfin.out
  · have u1 : (rp == 0) = false := by simp [e0]
    have u2 : (rp != 0) = true := by simp [e0]
    have hx := hb1.out e0
    have x1 := (Prod.mk.inj hx).1
    have x2 := (Prod.mk.inj hx).2
    have hfin := Lib.hid (show CsOut NL NR w (.returned (.tuple #[.slice none 0 0, .int .i64 rp])) W1 by rw [x1, x2]; exact CsOut.none rp w W1 B1.out)
    clear e0 hx x1 x2 M1 hb2 hb3 hb1
    go_wp2_with fail
    go_ret2
    exact hfin.out
theorem comb_any (v u : Value) (p q : List Cs) (s : Int) (hs : s = 1 ∨ s = -1) (w : World) (hp : CashAt w v p) (hq : CashAt w u q) (hm : p.length + q.length ≤ 9223372036854775807) :
    Calls Try.prog 35 #[v, u, .int .i64 s] w (CsOut (normV (joinV p q s)).1 (normV (joinV p q s)).2 w) := by
  by_cases hl : 65536 < p.length + q.length
  · have e : normV (joinV p q s) = ([], 4) := by unfold normV; rw [if_pos (by rw [joinV_length]; exact hl)]
    rw [e]; exact comb_long v u p q s w hp hq hl hm
  · exact comb_short v u p q s hs w hp hq (by omega)
theorem cash_nil (w : World) : CashAt w (.slice none 0 0) [] := ⟨none, 0, rfl, ⟨Nat.le_refl _, fun _ => rfl⟩, fun h => by simp at h⟩
theorem join_nil (p : List Cs) : joinV p [] 1 = p := by simp [joinV]
theorem pnorm_any : NormOf 19 := fun v l w h hm => by
  have c := Lib.hid (comb_any v (.slice none 0 0) l [] 1 (.inl rfl) w h (cash_nil w) (by simpa using hm))
  rw [join_nil] at c
  clear h
  go_enter Try.func19, Try.ntmps19
  go_wp2_with fail
  refine c.out.mono ?_; rintro e W ⟨r, rfl, hR, hB⟩
  have hfin := Lib.hid (show CsOut (normV l).1 (normV l).2 w (.returned (.tuple #[r, .int .i64 (normV l).2])) W from ⟨_, rfl, hR, hB⟩)
  clear hR hB c
  go_wp2_with fail
  go_ret2
  exact hfin.out
theorem padd_any : JoinOf 1 24 := fun v u p q w hp hq h1 h2 => by
  have c := Lib.hid (comb_any v u p q 1 (.inl rfl) w hp hq (by omega))
  clear hp hq
  go_enter Try.func24, Try.ntmps24
  go_wp2_with fail
  refine c.out.mono ?_; rintro e W ⟨r, rfl, hR, hB⟩
  have hfin := Lib.hid (show CsOut (normV (joinV p q 1)).1 (normV (joinV p q 1)).2 w (.returned (.tuple #[r, .int .i64 (normV (joinV p q 1)).2])) W from ⟨_, rfl, hR, hB⟩)
  clear hR hB c
  go_wp2_with fail
  go_ret2
  exact hfin.out
theorem psub_any : JoinOf (-1) 26 := fun v u p q w hp hq h1 h2 => by
  have c := Lib.hid (comb_any v u p q (-1) (.inr rfl) w hp hq (by omega))
  clear hp hq
  go_enter Try.func26, Try.ntmps26
  go_wp2_with fail
  refine c.out.mono ?_; rintro e W ⟨r, rfl, hR, hB⟩
  have hfin := Lib.hid (show CsOut (normV (joinV p q (-1))).1 (normV (joinV p q (-1))).2 w (.returned (.tuple #[r, .int .i64 (normV (joinV p q (-1))).2])) W from ⟨_, rfl, hR, hB⟩)
  clear hR hB c
  go_wp2_with fail
  go_ret2
  exact hfin.out
end Go.Proofs.Ytcdfedkcefhdiaa.Exc
