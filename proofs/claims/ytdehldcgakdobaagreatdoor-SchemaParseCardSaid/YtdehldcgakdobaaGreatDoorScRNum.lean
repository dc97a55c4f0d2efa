/- The reference's value: numbers. -/
import Derived.Test.YtdehldcgakdobaaGreatDoorScRVal
import Derived.Test.YtdehldcgakdobaaGreatDoorDec
namespace Go.Proofs.YtdehldcgakdobaaGreatDoor.Sc
open Go.RowKit Go.Lib Go.Proofs.YtdehldcgakdobaaGreatDoor.Bas Go.Proofs.YtdehldcgakdobaaGreatDoor.Cal Go.Proofs.YtdehldcgakdobaaGreatDoor.Lx
set_option linter.unusedVariables false

theorem dvalA_lt : ∀ (l : List UInt8) (acc : Nat), (∀ c ∈ l, dgt c = true) → dvalA acc l < (acc + 1) * 10 ^ l.length := by
  intro l
  induction l with
  | nil => intro acc _; rw [dvalA_nil]; simp
  | cons c r ih =>
    intro acc hd
    have hc : 48 ≤ c.toNat ∧ c.toNat ≤ 57 := of_decide_eq_true (hd c (List.mem_cons_self ..))
    rw [dvalA_cons]
    have h1 := ih (acc * 10 + (c.toNat - 48)) (fun c hc => hd c (List.mem_cons_of_mem _ hc))
    have h2 : acc * 10 + (c.toNat - 48) + 1 ≤ (acc + 1) * 10 := by omega
    have h3 := Nat.mul_le_mul_right (10 ^ r.length) h2
    rw [List.length_cons, Nat.pow_succ, Nat.mul_comm (10 ^ r.length) 10, ← Nat.mul_assoc]
    omega
theorem decDigits_le : ∀ (k u : Nat), 1 ≤ k → u < 10 ^ k → (decDigits u).length ≤ k := by
  intro k
  induction k with
  | zero => intro u h; omega
  | succ k ih =>
    intro u _ hu
    rw [decDigits]
    by_cases h : u < 10
    · rw [dif_pos h]; simp
    · rw [dif_neg h]
      by_cases hk : k = 0
      · subst hk; simp at hu; omega
      · have := ih (u / 10) (by omega) (by rw [Nat.pow_succ] at hu; omega)
        simp; omega
def sgnB (T : List UInt8) : Bool := decide (T.getD 0 0 = 45)
def magD (T : List UInt8) : List UInt8 := if sgnB T = true then T.drop 1 else T
def numV (T : List UInt8) : Int := if sgnB T = true then -((dvalA 0 (magD T) : Nat) : Int) else ((dvalA 0 (magD T) : Nat) : Int)
theorem num_itoa (y : Int) (h1 : -1000000000 ≤ y) (h2 : y ≤ 1000000000) : 1 ≤ (magD (itoa y)).length ∧ (magD (itoa y)).length ≤ 10 ∧ (∀ c ∈ magD (itoa y), dgt c = true) ∧ numV (itoa y) = y := by
  by_cases hn : y < 0
  · have hi : itoa y = 45 :: decDigits y.natAbs := by unfold itoa; rw [if_pos hn]
    obtain ⟨a, b, c⟩ := decDigits_spec y.natAbs
    have hs : sgnB (itoa y) = true := by rw [hi]; rfl
    have hm : magD (itoa y) = decDigits y.natAbs := by unfold magD; rw [if_pos hs, hi]; rfl
    refine ⟨by rw [hm]; exact c, by rw [hm]; exact decDigits_le 10 _ (by decide) (by omega), by rw [hm]; exact b, ?_⟩
    unfold numV
    rw [if_pos hs, hm, a]
    omega
  · have hi : itoa y = decDigits y.toNat := by unfold itoa; rw [if_neg hn]
    obtain ⟨a, b, c⟩ := decDigits_spec y.toNat
    have hs : sgnB (itoa y) = false := by
      rw [hi]
      apply decide_eq_false
      intro e
      have hm : (decDigits y.toNat).getD 0 0 ∈ decDigits y.toNat := by
        rw [List.getD_eq_getElem?_getD, List.getElem?_eq_getElem (by omega)]
        exact List.getElem_mem _
      have := b _ hm
      rw [e] at this
      cases this
    have hm : magD (itoa y) = decDigits y.toNat := by unfold magD; rw [if_neg (by rw [hs]; simp), hi]
    refine ⟨by rw [hm]; exact c, by rw [hm]; exact decDigits_le 10 _ (by decide) (by omega), by rw [hm]; exact b, ?_⟩
    unfold numV
    rw [if_neg (by rw [hs]; simp), hm, a]
    omega
theorem num_read {a : At} {T : List UInt8} {y : Int} (he : attE a = 0) (hk : a.k = 2) (h : ReadOk a T y) : 1 ≤ (magD T).length ∧ (magD T).length ≤ 10 ∧ (∀ c ∈ magD T, dgt c = true) ∧ numV T = y ∧ itoa y = T := by
  have hb := domV_bd a he
  obtain ⟨h1, h2, h3⟩ := h
  rw [valT_n hk] at h3
  have := num_itoa y (by omega) (by omega)
  rw [h3] at this
  exact ⟨this.1, this.2.1, this.2.2.1, this.2.2.2, h3⟩
theorem take_snoc (D : List UInt8) (k : Nat) (h : k < D.length) : D.take (k + 1) = D.take k ++ [D.getD k 0] := by
  rw [List.take_succ_eq_append_getElem h, List.getD_eq_getElem?_getD, List.getElem?_eq_getElem h]; rfl
theorem u8_sub (n : Nat) (h1 : 48 ≤ n) (h2 : n ≤ 57) : IntKind.u8.wrap ((n : Int) - 48) = (n : Int) - 48 := by
  have : n = 48 ∨ n = 49 ∨ n = 50 ∨ n = 51 ∨ n = 52 ∨ n = 53 ∨ n = 54 ∨ n = 55 ∨ n = 56 ∨ n = 57 := by omega
  rcases this with rfl | rfl | rfl | rfl | rfl | rfl | rfl | rfl | rfl | rfl <;> decide
set_option maxRecDepth 8000 in
set_option maxHeartbeats 8000000 in
theorem rval_num (a : At) (u : Value) (T : List UInt8) (w : World) (h : StrsAt w u a.ws) (he : attE a = 0) (hk : a.k = 2) (hT : T.length ≤ 9000) : Calls Tryz.prog 27 #[AtV a u, .string (tx T)] w (ValBe a T w) := by
  have hal := alloc_at w (.cells #[.string (tx a.nm), .int .i64 a.k, u, .int .i64 a.lo, .int .i64 a.hi] 43)
  have B0 := Lib.hid hal
  have K0 := Lib.hid (AAt.new w a u 43)
  have hrd := Lib.hid (fun y (hy : ReadOk a T y) => num_read he hk hy)
  have hval := Lib.hid (fun z => valT_n hk z)
  have hk' := Lib.hid hk
  unfold AtV
  obtain ⟨p, c, rfl, _, _⟩ := h
  clear hal hk he
  have hbl := Lib.hid (bl_tx T)
  have hs9 : (tx T).size ≤ 9000 := by rw [tx_size]; exact hT
  have htt := Lib.hid (fun x => tx_test x T)
  have hsd := Lib.hid (show sgnB T = decide (T.getD 0 0 = 45) from rfl)
  have hmd := Lib.hid (show magD T = if sgnB T = true then T.drop 1 else T from rfl)
  have hnv := Lib.hid (show numV T = if sgnB T = true then -((dvalA 0 (magD T) : Nat) : Int) else ((dvalA 0 (magD T) : Nat) : Int) from rfl)
  obtain ⟨s, hs⟩ : ∃ s, tx T = s := ⟨_, rfl⟩
  rw [hs] at hbl hs9 ⊢
  have htx := Lib.hid hs
  clear hs hT
  have hget := Lib.hid (bl_get s)
  have hsz := Lib.hid (bl_size s)
  go_enter Tryz.func27, Tryz.ntmps27
  go_upto_region 1 with fail
  obtain ⟨b0, hb0⟩ : ∃ b, w.heap.size = b := ⟨_, rfl⟩
  rw [hb0] at K0 ⊢
  clear hb0
  generalize w.alloc (.cells #[.string (tx a.nm), .int .i64 a.k, .slice p a.ws.length c, .int .i64 a.lo, .int .i64 a.hi] 43) = W0 at *
  obtain ⟨_, z0, z1, z2, z3, z4⟩ := K0.out
  rw [hk'.out] at z1
  go_upto_region 11 with fail
  clear z0 z1 z2 z3 z4
  go_cut [39] (fun x39 wx => x39 = .bool (sgnB T) ∧ wx = W0)
  case first =>
    by_cases h0 : 0 < s.size
    · have t1 : decide ((0 : Int) < (s.size : Int)) = true := by simp; omega
      have t2 : decide (0 < s.size) = true := by simp; omega
      have t3 : ((s[0].toNat : Int) == 45) = sgnB T := by
        rw [hsd.out]
        have e := hget.out 0 h0
        rw [hbl] at e
        rw [e]
        by_cases h45 : s[0] = 45
        · rw [h45]; rfl
        · rw [decide_eq_false h45]
          have : ¬ (s[0].toNat : Int) = 45 := fun e => h45 (UInt8.toNat_inj.1 (by show s[0].toNat = 45; omega))
          simpa using this
      go_wp2_with fail
      try any_goals (exfalso; omega; done)
      go_meet
      case rel => first | exact ⟨rfl, rfl⟩ | exact ⟨by rw [t3], rfl⟩
    · have t1 : decide ((0 : Int) < (s.size : Int)) = false := decide_eq_false (by omega)
      have t2 : decide (0 < s.size) = false := decide_eq_false h0
      have t3 : sgnB T = false := by
        rw [hsd.out]
        have : T = [] := by
          have e := hsz.out
          rw [hbl] at e
          exact List.length_eq_zero_iff.1 (by omega)
        rw [this]; rfl
      go_wp2_with fail
      try any_goals (exfalso; omega; done)
      go_meet
      case rel => exact ⟨by rw [t3], rfl⟩
  case rest =>
    obtain ⟨rfl, rfl⟩ := hcut
    have hTl := Lib.hid (show T.length = s.size from by rw [← hbl]; exact hsz.out)
    have hbl' := Lib.hid hbl
    clear hbl
    cases hsg : sgnB T
    · rw [hsg] at hsd hmd hnv
      have e7 : (s.toList != s.toList) = false := by simp
      have e7b : (s.toList == s.toList) = true := by simp
      have hsdd := Lib.hid (show bl s = magD T from by rw [hmd.out, if_neg (by simp), hbl'.out])
      have hnv2 := Lib.hid (show numV T = ((dvalA 0 (magD T) : Nat) : Int) from by rw [hnv.out, if_neg (by simp)])
      clear hsg
      have hDl : (magD T).length = s.size := by rw [← hsdd.out]; exact bl_size s
      have hgd := Lib.hid (bl_get s)
      rw [hsdd.out] at hgd
      generalize magD T = D at *
      generalize numV T = V at *
      have hV := Lib.hid (show V = ((dvalA 0 D : Nat) : Int) from hnv2.out)
      clear hnv hnv2 hmd hsd hget hsz
      obtain ⟨m, hm⟩ : ∃ m, s.size = m := ⟨_, rfl⟩
      by_cases hlen : 1 ≤ m ∧ m ≤ 10
      · obtain ⟨l1, l2⟩ := hlen
        have t1 : decide ((s.size : Int) < 1) = false := decide_eq_false (by omega)
        have t2 : decide (s.size < 1) = false := decide_eq_false (by omega)
        have t3 : decide ((10 : Int) < (s.size : Int)) = false := decide_eq_false (by omega)
        have t4 : decide (10 < s.size) = false := decide_eq_false (by omega)
        go_wp2_with fail
        try any_goals (exfalso; omega; done)
        clear t1 t2 t3 t4
        go_loopw [8, 9] (fun x8 i wr => ∃ k : Nat, k ≤ m ∧ i = .int .i64 k ∧ x8 = .int .i64 ((dvalA 0 (D.take k) : Nat) : Int) ∧ wr = wc ∧ Hid (∀ c ∈ D.take k, dgt c = true)) (fun _ i _ => m - (RowKit.intOf i).toNat)
        case atStart => exact ⟨0, Nat.zero_le _, rfl, by rw [List.take_zero, dvalA_nil]; rfl, rfl, Lib.hid (fun c hc => by rw [List.take_zero] at hc; cases hc)⟩
        case round =>
          obtain ⟨k, hk, rfl, rfl, hwr, hZ⟩ := hrel
          subst hwr
          have hlt2 := dvalA_lt (D.take k) 0 hZ.out
          have hbig : dvalA 0 (D.take k) < 10000000000 := by
            have h1 : (D.take k).length ≤ 10 := by rw [List.length_take]; omega
            have h2 := Nat.pow_le_pow_right (show 0 < 10 by decide) h1
            have h3 : (10 : Nat) ^ 10 = 10000000000 := by decide
            omega
          clear hlt2
          by_cases hlt : k < m
          · have hks : k < s.size := by omega
            have hg := hgd.out k hks
            have cD := Lib.hid (fun W => rdigit_any s[k] W)
            have hsn := Lib.hid (take_snoc D k (by omega))
            have hk64 : IntKind.i64.wrap ((k : Int) + 1) = (k : Int) + 1 := IntWalk.i64_in _ (by omega)
            by_cases hdg : dgt s[k] = true
            · have hc : 48 ≤ s[k].toNat ∧ s[k].toNat ≤ 57 := of_decide_eq_true hdg
              have hZ2 := Lib.hid (show ∀ c ∈ D.take (k + 1), dgt c = true from fun c hc => by
                rw [hsn.out] at hc
                rcases List.mem_append.1 hc with h | h
                · exact hZ.out c h
                · rw [List.mem_singleton.1 h, hg]; exact hdg)
              have hN := Lib.hid (show dvalA 0 (D.take (k + 1)) = dvalA 0 (D.take k) * 10 + (s[k].toNat - 48) from by rw [hsn.out, dvalA_snoc, hg])
              rw [hdg] at cD
              generalize dvalA 0 (D.take k) = N at *
              have w1 : IntKind.i64.wrap (10 * (N : Int)) = 10 * (N : Int) := IntWalk.i64_in _ (by omega)
              have w2 : IntKind.u8.wrap ((s[k].toNat : Int) - 48) = (s[k].toNat : Int) - 48 := u8_sub _ hc.1 hc.2
              have w3 : IntKind.i64.wrap ((s[k].toNat : Int) - 48) = (s[k].toNat : Int) - 48 := IntWalk.i64_in _ (by omega)
              have w4 : IntKind.i64.wrap (10 * (N : Int) + ((s[k].toNat : Int) - 48)) = 10 * (N : Int) + ((s[k].toNat : Int) - 48) := IntWalk.i64_in _ (by omega)
              clear hdg hsn hg
              go_wp2_with (go_at_call 44; refine (cD.out _).mono ?_; rintro e w' ⟨rfl, rfl⟩)
              go_roundw
              case rel => exact ⟨k + 1, by omega, by go_num, by rw [hN.out]; congr 1; omega, by first | rfl | trivial, hZ2⟩
              case measure => simp [RowKit.intOf]; omega
            · have hdf : dgt s[k] = false := by simpa using hdg
              have hno := Lib.hid (show ∀ y, ¬ ReadOk a T y from fun y hy => by
                have h1 := (hrd.out y hy).2.2.1
                have h2 := h1 (D.getD k 0) (by rw [List.getD_eq_getElem?_getD, List.getElem?_eq_getElem (by omega)]; exact List.getElem_mem _)
                rw [hg, hdf] at h2
                cases h2)
              have hfin := Lib.hid (show ValBe a T w (.returned (.tuple #[.int .i64 0, .bool false])) wr from ⟨0, false, rfl, B0.out, (fun h => by cases h), fun y hy => absurd hy (hno.out y)⟩)
              rw [hdf] at cD
              clear hdg hdf hno hsn hg
              go_wp2_with (go_at_call 44; refine (cD.out _).mono ?_; rintro e w' ⟨rfl, rfl⟩)
              go_ret2
              exact hfin.out
          · obtain rfl : k = m := by omega
            have htk : D.take k = D := List.take_of_length_le (by omega)
            rw [htk] at hbig ⊢
            have hV2 := hV.out
            generalize dvalA 0 D = N at *
            have cDc := Lib.hid (fun w => decimal_any V w (by omega) (by omega))
            have tt := htt.out (itoa V)
            rw [htx.out] at tt
            have hfin := Lib.hid (fun (W : World) (hB : Below w.heap.size w W) => show ValBe a T w (.returned (.tuple #[.int .i64 V, .bool (decide (itoa V = T))])) W from ⟨V, _, rfl, hB, fun h => by rw [hval.out]; exact of_decide_eq_true h, fun y hy => by
              have h1 := (hrd.out y hy).2.2.2
              exact ⟨by rw [h1.1]; exact decide_eq_true h1.2, h1.1⟩⟩)
            generalize decide (itoa V = T) = q at *
            obtain ⟨sv, hsv⟩ : ∃ x, tx (itoa V) = x := ⟨_, rfl⟩
            rw [hsv] at cDc tt
            have hVN := Lib.hid hV2
            clear hV2
            clear hsv hrd htk hZ hgd hsdd hDl
            go_wp2_with fail
            rw [← hVN.out]
            refine (cDc.out _).mono ?_; rintro e W3 ⟨rfl, hB3⟩
            have B3 := Lib.hid (trans_b B0.out hB3)
            have hf := Lib.hid (hfin.out W3 B3.out)
            clear hB3
            cases q <;> (go_wp2_with fail; go_ret2; exact hf.out)
      · have hno := Lib.hid (show ∀ y, ¬ ReadOk a T y from fun y hy => by
          have h1 := hrd.out y hy
          exact hlen ⟨by omega, by omega⟩)
        have hfin := Lib.hid (show ValBe a T w (.returned (.tuple #[.int .i64 0, .bool false])) wc from ⟨0, false, rfl, B0.out, (fun h => by cases h), fun y hy => absurd hy (hno.out y)⟩)
        clear hno
        by_cases hm0 : m < 1
        · have t1 : decide ((s.size : Int) < 1) = true := decide_eq_true (by omega)
          have t2 : decide (s.size < 1) = true := decide_eq_true (by omega)
          go_wp2_with fail
          try any_goals (exfalso; omega; done)
          go_ret2
          exact hfin.out
        · have t1 : decide ((s.size : Int) < 1) = false := decide_eq_false (by omega)
          have t2 : decide (s.size < 1) = false := decide_eq_false (by omega)
          have t3 : decide ((10 : Int) < (s.size : Int)) = true := decide_eq_true (by omega)
          have t4 : decide (10 < s.size) = true := decide_eq_true (by omega)
          go_wp2_with fail
          try any_goals (exfalso; omega; done)
          go_ret2
          exact hfin.out
    · rw [hsg] at hsd hmd hnv
      have h0 : 0 < s.size := by
        rcases Nat.eq_zero_or_pos s.size with h | h
        · exfalso
          have : T = [] := List.length_eq_zero_iff.1 (by rw [hTl.out]; exact h)
          have e := hsd.out
          rw [this] at e
          simp at e
        · exact h
      have hsdd' : bl (s.extract 1 s.size) = magD T := by
        rw [bl_extract s 1 s.size (Nat.le_refl _), List.take_of_length_le (by rw [bl_size]; omega), hmd.out, if_pos rfl, hbl'.out]
      have hnv2 := Lib.hid (show numV T = -((dvalA 0 (magD T) : Nat) : Int) from by rw [hnv.out, if_pos rfl])
      clear hsg
      go_upto_region 13 with fail
      try any_goals (exfalso; omega; done)
      have hss : (s.extract 1 s.size).size = s.size - 1 := by rw [ByteArray.size_extract]; omega
      have e7 : ((s.extract 1 s.size).toList != s.toList) = true := by
        have : (s.extract 1 s.size).toList ≠ s.toList := fun e => by
          have h2 := congrArg List.length e
          rw [toList_bl, toList_bl, bl_size, bl_size, hss] at h2
          omega
        simpa using this
      have e7b : ((s.extract 1 s.size).toList == s.toList) = false := by
        have : (s.extract 1 s.size).toList ≠ s.toList := fun e => by
          have h2 := congrArg List.length e
          rw [toList_bl, toList_bl, bl_size, bl_size, hss] at h2
          omega
        simpa using this
      generalize s.extract 1 s.size = sd at *
      have hsdd := Lib.hid hsdd'
      clear hsdd' hss
      have hDl : (magD T).length = sd.size := by rw [← hsdd.out]; exact bl_size sd
      have hgd := Lib.hid (bl_get sd)
      rw [hsdd.out] at hgd
      generalize magD T = D at *
      generalize numV T = V at *
      have hV := Lib.hid (show V = -((dvalA 0 D : Nat) : Int) from hnv2.out)
      clear hnv hnv2 hmd hsd hget hsz
      obtain ⟨m, hm⟩ : ∃ m, sd.size = m := ⟨_, rfl⟩
      by_cases hlen : 1 ≤ m ∧ m ≤ 10
      · obtain ⟨l1, l2⟩ := hlen
        have t1 : decide ((sd.size : Int) < 1) = false := decide_eq_false (by omega)
        have t2 : decide (sd.size < 1) = false := decide_eq_false (by omega)
        have t3 : decide ((10 : Int) < (sd.size : Int)) = false := decide_eq_false (by omega)
        have t4 : decide (10 < sd.size) = false := decide_eq_false (by omega)
        go_wp2_with fail
        try any_goals (exfalso; omega; done)
        clear t1 t2 t3 t4
        go_loopw [8, 9] (fun x8 i wr => ∃ k : Nat, k ≤ m ∧ i = .int .i64 k ∧ x8 = .int .i64 ((dvalA 0 (D.take k) : Nat) : Int) ∧ wr = wc ∧ Hid (∀ c ∈ D.take k, dgt c = true)) (fun _ i _ => m - (RowKit.intOf i).toNat)
        case atStart => exact ⟨0, Nat.zero_le _, rfl, by rw [List.take_zero, dvalA_nil]; rfl, rfl, Lib.hid (fun c hc => by rw [List.take_zero] at hc; cases hc)⟩
        case round =>
          obtain ⟨k, hk, rfl, rfl, hwr, hZ⟩ := hrel
          subst hwr
          have hlt2 := dvalA_lt (D.take k) 0 hZ.out
          have hbig : dvalA 0 (D.take k) < 10000000000 := by
            have h1 : (D.take k).length ≤ 10 := by rw [List.length_take]; omega
            have h2 := Nat.pow_le_pow_right (show 0 < 10 by decide) h1
            have h3 : (10 : Nat) ^ 10 = 10000000000 := by decide
            omega
          clear hlt2
          by_cases hlt : k < m
          · have hks : k < sd.size := by omega
            have hg := hgd.out k hks
            have cD := Lib.hid (fun W => rdigit_any sd[k] W)
            have hsn := Lib.hid (take_snoc D k (by omega))
            have hk64 : IntKind.i64.wrap ((k : Int) + 1) = (k : Int) + 1 := IntWalk.i64_in _ (by omega)
            by_cases hdg : dgt sd[k] = true
            · have hc : 48 ≤ sd[k].toNat ∧ sd[k].toNat ≤ 57 := of_decide_eq_true hdg
              have hZ2 := Lib.hid (show ∀ c ∈ D.take (k + 1), dgt c = true from fun c hc => by
                rw [hsn.out] at hc
                rcases List.mem_append.1 hc with h | h
                · exact hZ.out c h
                · rw [List.mem_singleton.1 h, hg]; exact hdg)
              have hN := Lib.hid (show dvalA 0 (D.take (k + 1)) = dvalA 0 (D.take k) * 10 + (sd[k].toNat - 48) from by rw [hsn.out, dvalA_snoc, hg])
              rw [hdg] at cD
              generalize dvalA 0 (D.take k) = N at *
              have w1 : IntKind.i64.wrap (10 * (N : Int)) = 10 * (N : Int) := IntWalk.i64_in _ (by omega)
              have w2 : IntKind.u8.wrap ((sd[k].toNat : Int) - 48) = (sd[k].toNat : Int) - 48 := u8_sub _ hc.1 hc.2
              have w3 : IntKind.i64.wrap ((sd[k].toNat : Int) - 48) = (sd[k].toNat : Int) - 48 := IntWalk.i64_in _ (by omega)
              have w4 : IntKind.i64.wrap (10 * (N : Int) + ((sd[k].toNat : Int) - 48)) = 10 * (N : Int) + ((sd[k].toNat : Int) - 48) := IntWalk.i64_in _ (by omega)
              clear hdg hsn hg
              go_wp2_with (go_at_call 44; refine (cD.out _).mono ?_; rintro e w' ⟨rfl, rfl⟩)
              go_roundw
              case rel => exact ⟨k + 1, by omega, by go_num, by rw [hN.out]; congr 1; omega, by first | rfl | trivial, hZ2⟩
              case measure => simp [RowKit.intOf]; omega
            · have hdf : dgt sd[k] = false := by simpa using hdg
              have hno := Lib.hid (show ∀ y, ¬ ReadOk a T y from fun y hy => by
                have h1 := (hrd.out y hy).2.2.1
                have h2 := h1 (D.getD k 0) (by rw [List.getD_eq_getElem?_getD, List.getElem?_eq_getElem (by omega)]; exact List.getElem_mem _)
                rw [hg, hdf] at h2
                cases h2)
              have hfin := Lib.hid (show ValBe a T w (.returned (.tuple #[.int .i64 0, .bool false])) wr from ⟨0, false, rfl, B0.out, (fun h => by cases h), fun y hy => absurd hy (hno.out y)⟩)
              rw [hdf] at cD
              clear hdg hdf hno hsn hg
              go_wp2_with (go_at_call 44; refine (cD.out _).mono ?_; rintro e w' ⟨rfl, rfl⟩)
              go_ret2
              exact hfin.out
          · obtain rfl : k = m := by omega
            have htk : D.take k = D := List.take_of_length_le (by omega)
            rw [htk] at hbig ⊢
            have hV2 := hV.out
            generalize dvalA 0 D = N at *
            have cDc := Lib.hid (fun w => decimal_any V w (by omega) (by omega))
            have tt := htt.out (itoa V)
            rw [htx.out] at tt
            have hfin := Lib.hid (fun (W : World) (hB : Below w.heap.size w W) => show ValBe a T w (.returned (.tuple #[.int .i64 V, .bool (decide (itoa V = T))])) W from ⟨V, _, rfl, hB, fun h => by rw [hval.out]; exact of_decide_eq_true h, fun y hy => by
              have h1 := (hrd.out y hy).2.2.2
              exact ⟨by rw [h1.1]; exact decide_eq_true h1.2, h1.1⟩⟩)
            generalize decide (itoa V = T) = q at *
            obtain ⟨sv, hsv⟩ : ∃ x, tx (itoa V) = x := ⟨_, rfl⟩
            rw [hsv] at cDc tt
            have hVN := Lib.hid hV2
            have wn : IntKind.i64.wrap (-(N : Int)) = -(N : Int) := IntWalk.i64_in _ (by omega)
            clear hV2
            clear hsv hrd htk hZ hgd hsdd hDl
            go_wp2_with fail
            rw [← hVN.out]
            refine (cDc.out _).mono ?_; rintro e W3 ⟨rfl, hB3⟩
            have B3 := Lib.hid (trans_b B0.out hB3)
            have hf := Lib.hid (hfin.out W3 B3.out)
            clear hB3
            cases q <;> (go_wp2_with fail; go_ret2; exact hf.out)
      · have hno := Lib.hid (show ∀ y, ¬ ReadOk a T y from fun y hy => by
          have h1 := hrd.out y hy
          exact hlen ⟨by omega, by omega⟩)
        have hfin := Lib.hid (show ValBe a T w (.returned (.tuple #[.int .i64 0, .bool false])) wc from ⟨0, false, rfl, B0.out, (fun h => by cases h), fun y hy => absurd hy (hno.out y)⟩)
        clear hno
        by_cases hm0 : m < 1
        · have t1 : decide ((sd.size : Int) < 1) = true := decide_eq_true (by omega)
          have t2 : decide (sd.size < 1) = true := decide_eq_true (by omega)
          go_wp2_with fail
          try any_goals (exfalso; omega; done)
          go_ret2
          exact hfin.out
        · have t1 : decide ((sd.size : Int) < 1) = false := decide_eq_false (by omega)
          have t2 : decide (sd.size < 1) = false := decide_eq_false (by omega)
          have t3 : decide ((10 : Int) < (sd.size : Int)) = true := decide_eq_true (by omega)
          have t4 : decide (10 < sd.size) = true := decide_eq_true (by omega)
          go_wp2_with fail
          try any_goals (exfalso; omega; done)
          go_ret2
          exact hfin.out
theorem rval_any (a : At) (u : Value) (T : List UInt8) (w : World) (h : StrsAt w u a.ws) (he : attE a = 0) (hT : T.length ≤ 9000) : Calls Tryz.prog 27 #[AtV a u, .string (tx T)] w (ValBe a T w) := by
  rcases attE_ok a he with ⟨hk, _⟩ | ⟨hk, _⟩ | ⟨hk, _⟩
  · exact rval_word a u T w h he hk
  · exact rval_num a u T w h he hk hT
  · exact rval_truth a u T w h he hk hT
end Go.Proofs.YtdehldcgakdobaaGreatDoor.Sc
