/- The program's read: the value of an attribute that has a text. -/
import Derived.Test.YtdehldcgakdobaaGreatDoorScPForm
import Derived.Test.YtdehldcgakdobaaGreatDoorScEnv
import Derived.Lib.AppendIntMem
namespace Go.Proofs.YtdehldcgakdobaaGreatDoor.Sc
open Go.RowKit Go.Lib Go.Proofs.YtdehldcgakdobaaGreatDoor.Bas Go.Proofs.YtdehldcgakdobaaGreatDoor.Cal Go.Proofs.YtdehldcgakdobaaGreatDoor.Lx
set_option linter.unusedVariables false

theorem first_or_none (p : Nat → Prop) [DecidablePred p] : ∀ n, (∃ k, k < n ∧ p k ∧ ∀ j, j < k → ¬ p j) ∨ ∀ j, j < n → ¬ p j := by
  intro n
  induction n with
  | zero => right; intro j hj; omega
  | succ n ih =>
    rcases ih with ⟨k, h1, h2, h3⟩ | h
    · left; exact ⟨k, by omega, h2, h3⟩
    · by_cases hp : p n
      · left; exact ⟨n, by omega, hp, h⟩
      · right
        intro j hj
        by_cases e : j = n
        · rw [e]; exact hp
        · exact h j (by omega)
def IxBe (l : List (List UInt8)) (x : List UInt8) (w : World) (e : Ending) (w' : World) : Prop := ∃ z : Int, e = .returned (.int .i64 z) ∧ w = w' ∧ ((∃ k : Nat, z = k ∧ k < l.length ∧ l.getD k [] = x) ∨ (z = -1 ∧ ∀ j, j < l.length → l.getD j [] ≠ x))
/-- slices.Index. -/
theorem pindex_any (v : Value) (l : List (List UInt8)) (x : List UInt8) (w : World) (h : StrsAt w v l) (hl : l.length ≤ 1000) : Calls Tryz.prog 39 #[v, .string (tx x)] w (IxBe l x w) := by
  obtain ⟨p, c, rfl, _, hp⟩ := h
  by_cases h0 : l.length = 0
  · rw [h0]
    refine (Tryz.slices_Index_string_empty p c (tx x) w).mono ?_
    rintro e w' ⟨rfl, rfl⟩
    exact ⟨_, rfl, rfl, .inr ⟨rfl, fun j hj => by omega⟩⟩
  · obtain ⟨b, off, rfl, hc⟩ := hp (by omega)
    have hz : (l.map tx).length = l.length := by simp
    refine (Tryz.slices_Index_string b off l.length c (l.map tx) (tx x) w (by rw [hz]; exact Nat.le_refl _) (by omega) (fun j hj => by
      have hj' : j < l.length := by rw [← hz]; exact hj
      rw [getD_tx l j hj']; exact hc j hj')).mono ?_
    rintro e w' ⟨rfl, rfl⟩
    rcases first_or_none (fun j => l.getD j [] = x) l.length with ⟨k, hk, h1, h2⟩ | h
    · refine ⟨_, rfl, rfl, .inl ⟨k, ?_, hk, h1⟩⟩
      exact idxOfS_hit (l.map tx) l.length k (tx x) hk (by rw [hz]; exact Nat.le_refl _) (by rw [getD_tx l k hk, h1]) (fun j hj => by
        rw [getD_tx l j (by omega)]; intro e; exact h2 j hj (tx_inj e))
    · refine ⟨_, rfl, rfl, .inr ⟨?_, h⟩⟩
      exact idxOfS_miss (l.map tx) l.length (tx x) (fun j hj => by
        rw [getD_tx l j hj]; intro e; exact h j hj (tx_inj e))
/-- strconv.Atoi at what is a number, and at what is none. -/
theorem atoi_yes (t : ByteArray) (hs : t.size ≤ 10000) (v : Int) (h : Lib.atoiAll (bl t) = .ok v) (w : World) : Calls Tryz.prog 40 #[.string t] w fun e w' => e = .returned (.tuple #[.int .i64 v, .nilIface]) ∧ Below w.heap.size w w' := by
  refine (Tryz.strconv_Atoi_ok t (by omega) v h w).mono ?_
  rintro e w' ⟨rfl, hw | ⟨q, hw⟩⟩
  · subst hw
    exact ⟨rfl, Below.refl _ _⟩
  · subst hw
    exact ⟨rfl, Lib.bytesWorld_below _ _ _⟩
theorem atoi_no (t : ByteArray) (hs : t.size ≤ 10000) (h : ∀ v, Lib.atoiAll (bl t) ≠ .ok v) (w : World) (hE : EnvS w) : Calls Tryz.prog 40 #[.string t] w fun e w' => ∃ v N, e = .returned (.tuple #[.int .i64 v, .iface 100 (.pointer (some ⟨N, 0, none⟩))]) ∧ Below w.heap.size w w' := by
  obtain ⟨t1, p1, h1⟩ := hE.rng
  obtain ⟨t2, p2, h2⟩ := hE.syn
  cases ha : Lib.atoiAll (bl t)
  · exact absurd ha (h _)
  · refine (Any.strconv_Atoi_syntax_var Tryz.laysC172 t (by omega) ha t2 p2 w h2).mono ?_
    rintro e w' ⟨N, rfl, _, _, hB⟩
    exact ⟨_, N, rfl, hB⟩
  · refine (Tryz.strconv_Atoi_range_var t (by omega) ha t1 p1 w h1).mono ?_
    rintro e w' ⟨N, rfl, _, _, hB⟩
    exact ⟨_, N, rfl, hB⟩
def ReadBe (a : At) (T : List UInt8) (w : World) (e : Ending) (w' : World) : Prop := ∃ (z : Int) (b : Bool), e = .returned (.tuple #[.int .i64 z, .bool b]) ∧ Below w.heap.size w w' ∧ (b = true → ReadOk a T z) ∧ ((∃ y, ReadOk a T y) → b = true)
theorem words_dom (a : At) (he : attE a = 0) (hk : a.k ≠ 2) (k : Nat) (h : k < (wordsV a).length) : (domV a).1 ≤ (k : Int) ∧ (k : Int) ≤ (domV a).2 := by
  rcases attE_ok a he with ⟨k1, _⟩ | ⟨k1, _⟩ | ⟨k1, _⟩
  · have hd : domV a = (0, (a.ws.length : Int) - 1) := if_pos k1
    unfold wordsV at h
    rw [if_neg (by omega)] at h
    rw [hd]
    exact ⟨by show (0 : Int) ≤ k; omega, by show (k : Int) ≤ _; omega⟩
  · exact absurd k1 hk
  · have hd : domV a = (0, 1) := by unfold domV; rw [if_neg (by omega), if_neg hk]
    unfold wordsV at h
    rw [if_pos k1] at h
    have h2 : k < 2 := h
    rw [hd]
    exact ⟨by show (0 : Int) ≤ k; omega, by show (k : Int) ≤ 1; omega⟩
theorem wordsV_len (a : At) (he : attE a = 0) (hk : a.k ≠ 2) : (wordsV a).length ≤ 12 := by
  rcases attE_ok a he with ⟨k1, _, _, _, h12, _⟩ | ⟨k1, _⟩ | ⟨k1, _⟩
  · unfold wordsV; rw [if_neg (by omega)]; exact h12
  · exact absurd k1 hk
  · unfold wordsV; rw [if_pos k1]; decide
set_option maxRecDepth 8000 in
set_option maxHeartbeats 4000000 in
theorem pread_word (a : At) (u : Value) (T : List UInt8) (w : World) (h : StrsAt w u a.ws) (he : attE a = 0) (hk : a.k ≠ 2) : Calls Tryz.prog 24 #[AtV a u, .string (tx T)] w (ReadBe a T w) := by
  have hal := alloc_at w (.cells #[.string (tx a.nm), .int .i64 a.k, u, .int .i64 a.lo, .int .i64 a.hi] 43)
  have B0 := Lib.hid hal
  have S0 := Lib.hid (h.below hal)
  have K0 := Lib.hid (AAt.new w a u 43)
  have cW := Lib.hid (fun W hS => pwords_any a u W hS)
  have hlen := wordsV_len a he hk
  have cI := Lib.hid (fun v W hS => pindex_any v (wordsV a) T W hS (by omega))
  have hdm := Lib.hid (words_dom a he hk)
  have hvw := Lib.hid (valT_words a · he hk)
  have t1 : (a.k == 2) = false := by simpa using hk
  unfold AtV at cW ⊢
  obtain ⟨p, c, rfl, _, _⟩ := h
  clear hal hk
  go_enter Tryz.func24, Tryz.ntmps24
  go_upto_region 1 with fail
  obtain ⟨b0, hb0⟩ : ∃ b, w.heap.size = b := ⟨_, rfl⟩
  rw [hb0] at K0 ⊢
  clear hb0
  generalize w.alloc (.cells #[.string (tx a.nm), .int .i64 a.k, .slice p a.ws.length c, .int .i64 a.lo, .int .i64 a.hi] 43) = W0 at *
  obtain ⟨_, z0, z1, z2, z3, z4⟩ := K0.out
  have cX := Lib.hid (cW.out W0 S0.out)
  clear cW S0
  go_wp2_with fail
  refine cX.out.mono ?_; rintro e W1 ⟨v, rfl, hS1, hB1⟩
  have B1 := Lib.hid (trans_b B0.out hB1)
  have cY := Lib.hid (cI.out v W1 hS1)
  obtain ⟨pv, cv, rfl, _, _⟩ := hS1
  clear hB1 cX cI z0 z1 z2 z3 z4
  go_wp2_with fail
  refine cY.out.mono ?_; rintro e W2 ⟨z, rfl, rfl, hz⟩
  rcases hz with ⟨k, rfl, hk1, hk2⟩ | ⟨rfl, hk2⟩
  · have hd := hdm.out k hk1
    have hfin := Lib.hid (show ReadBe a T w (.returned (.tuple #[.int .i64 (k : Int), .bool true])) W1 from ⟨k, true, rfl, B1.out, fun _ => ⟨hd.1, hd.2, by rw [(hvw.out (k : Int) hd.1 hd.2).2.2, Int.toNat_natCast]; exact hk2⟩, fun _ => rfl⟩)
    have t2 : decide ((0 : Int) ≤ (k : Int)) = true := by simp
    clear hd hdm hvw hk2
    go_wp2_with fail
    go_ret2
    exact hfin.out
  · have hfin := Lib.hid (show ReadBe a T w (.returned (.tuple #[.int .i64 (-1), .bool false])) W1 from ⟨-1, false, rfl, B1.out, (fun h => by cases h), fun ⟨y, h1, h2, h3⟩ => by
      obtain ⟨g1, g2, g3⟩ := hvw.out y h1 h2
      exact absurd (g3.symm.trans h3) (hk2 _ g2)⟩)
    clear hdm hvw hk2
    go_wp2_with fail
    go_ret2
    exact hfin.out
set_option maxRecDepth 8000 in
set_option maxHeartbeats 4000000 in
theorem pread_num (a : At) (u : Value) (T : List UInt8) (w : World) (hE : EnvS w) (h : StrsAt w u a.ws) (hw : AtWf a) (he : attE a = 0) (hk : a.k = 2) (hT : T.length ≤ 10000) : Calls Tryz.prog 24 #[AtV a u, .string (tx T)] w (ReadBe a T w) := by
  have hal := alloc_at w (.cells #[.string (tx a.nm), .int .i64 a.k, u, .int .i64 a.lo, .int .i64 a.hi] 43)
  have B0 := Lib.hid hal
  have S0 := Lib.hid (h.below hal)
  have E0 := Lib.hid (hE.keep hal)
  have K0 := Lib.hid (AAt.new w a u 43)
  have cC := Lib.hid (fun z W hS => pcontains_any a u z W hS hw he)
  have cW := Lib.hid (fun z W hS h1 h2 (hT : EnvS W) => pwritten_any a u z W hS hw he h1 h2 hT.pow (fun {w w'} h hb => pow_keep h hb))
  have hbd := Lib.hid (domV_bd a he)
  have hrd := Lib.hid (fun y (h : ReadOk a T y) => show atoiAll T = .ok y from by
    have h3 := h.2.2
    rw [valT_n hk] at h3
    have := domV_bd a he
    rw [← h3]
    exact itoa_read y (by have := h.1; omega) (by have := h.2.1; omega))
  have hk' := Lib.hid hk
  unfold AtV at cC cW ⊢
  obtain ⟨p, c, rfl, _, _⟩ := h
  clear hal hk hw he hE
  have hTs : (tx T).size ≤ 10000 := by rw [tx_size]; exact hT
  obtain ⟨s, hs⟩ : ∃ s, tx T = s := ⟨_, rfl⟩
  rw [hs] at hTs ⊢
  have hs' := Lib.hid hs
  clear hs
  have hbs := Lib.hid (show bl s = T from by rw [← hs'.out, bl_tx])
  go_enter Tryz.func24, Tryz.ntmps24
  go_upto_region 1 with fail
  obtain ⟨b0, hb0⟩ : ∃ b, w.heap.size = b := ⟨_, rfl⟩
  rw [hb0] at K0 ⊢
  clear hb0
  generalize w.alloc (.cells #[.string (tx a.nm), .int .i64 a.k, .slice p a.ws.length c, .int .i64 a.lo, .int .i64 a.hi] 43) = W0 at *
  obtain ⟨_, z0, z1, z2, z3, z4⟩ := K0.out
  rw [hk'.out] at z1
  by_cases hok : ∃ v, atoiAll T = .ok v
  · obtain ⟨v, hv⟩ := hok
    have cA := Lib.hid (atoi_yes s hTs v (by rw [hbs.out]; exact hv) W0)
    have hvv := Lib.hid hv
    clear hv
    go_wp2_with fail
    refine cA.out.mono ?_; rintro e W1 ⟨rfl, hB1⟩
    have B1 := Lib.hid (trans_b B0.out hB1)
    have S1 := Lib.hid (S0.out.below hB1)
    have E1 := Lib.hid (E0.out.keep hB1)
    have K1 := Lib.hid (K0.out.keep hB1)
    clear hB1 cA z0 z1 z2 z3 z4 S0 E0 K0 B0
    obtain ⟨_, z0, z1, z2, z3, z4⟩ := K1.out
    have cX := Lib.hid (cC.out v W1 S1.out)
    clear cC
    go_wp2_with fail
    refine cX.out.mono ?_; rintro e W2 ⟨rfl, hB2⟩
    have B2 := Lib.hid (trans_b B1.out hB2)
    have S2 := Lib.hid (S1.out.below hB2)
    have E2 := Lib.hid (E1.out.keep hB2)
    have K2 := Lib.hid (K1.out.keep hB2)
    clear hB2 cX z0 z1 z2 z3 z4 S1 E1 K1 B1
    obtain ⟨_, z0, z1, z2, z3, z4⟩ := K2.out
    cases hin : inB a v with
    | false =>
      have hfin := Lib.hid (show ReadBe a T w (.returned (.tuple #[.int .i64 v, .bool false])) W2 from ⟨v, false, rfl, B2.out, (fun h => by cases h), fun ⟨y, hy⟩ => by
        have := hrd.out y hy
        rw [hvv.out] at this
        injection this with this
        subst this
        unfold inB at hin
        rw [decide_eq_true hy.1, decide_eq_true hy.2.1] at hin
        cases hin⟩)
      clear hin
      go_wp2_with fail
      go_ret2
      exact hfin.out
    | true =>
      have hi2 : (domV a).1 ≤ v ∧ v ≤ (domV a).2 := by
        unfold inB at hin
        simpa using hin
      have cY := Lib.hid (cW.out v W2 S2.out hi2.1 hi2.2 E2.out)
      have hvt := Lib.hid (valT_n hk'.out v)
      have tt := tx_test (valT a v) T
      rw [hs'.out] at tt
      have hfin := Lib.hid (fun (W3 : World) (hB : Below w.heap.size w W3) => show ReadBe a T w (.returned (.tuple #[.int .i64 v, .bool (decide (valT a v = T))])) W3 from ⟨v, decide (valT a v = T), rfl, hB, fun h => ⟨hi2.1, hi2.2, of_decide_eq_true h⟩, fun ⟨y, hy⟩ => by
        have := hrd.out y hy
        rw [hvv.out] at this
        injection this with this
        subst this
        exact decide_eq_true hy.2.2⟩)
      clear hin hi2
      generalize decide (valT a v = T) = q at *
      obtain ⟨sv, hsv⟩ : ∃ s, tx (valT a v) = s := ⟨_, rfl⟩
      rw [hsv] at tt
      have hsv' := Lib.hid hsv
      clear hsv
      go_wp2_with fail
      refine cY.out.mono ?_; rintro e W3 ⟨rfl, hB3⟩
      have B3 := Lib.hid (trans_b B2.out hB3)
      have hf := Lib.hid (hfin.out W3 B3.out)
      clear hB3 cY
      rw [hsv'.out]
      cases q <;> (go_wp2_with fail; go_ret2; exact hf.out)
  · have cA := Lib.hid (atoi_no s hTs (fun v hv => hok ⟨v, by rw [← hbs.out]; exact hv⟩) W0 E0.out)
    have hno := Lib.hid (show ¬ ∃ y, ReadOk a T y from fun ⟨y, hy⟩ => hok ⟨y, hrd.out y hy⟩)
    clear hok
    go_wp2_with fail
    refine cA.out.mono ?_; rintro e W1 ⟨v, N, rfl, hB1⟩
    have B1 := Lib.hid (trans_b B0.out hB1)
    have hfin := Lib.hid (show ReadBe a T w (.returned (.tuple #[.int .i64 v, .bool false])) W1 from ⟨v, false, rfl, B1.out, (fun h => by cases h), fun h => absurd h hno.out⟩)
    clear hB1 cA
    go_wp2_with fail
    go_ret2
    exact hfin.out
theorem pread_any (a : At) (u : Value) (T : List UInt8) (w : World) (hE : EnvS w) (h : StrsAt w u a.ws) (hw : AtWf a) (he : attE a = 0) (hT : T.length ≤ 10000) : Calls Tryz.prog 24 #[AtV a u, .string (tx T)] w (ReadBe a T w) := by
  by_cases hk : a.k = 2
  · exact pread_num a u T w hE h hw he hk hT
  · exact pread_word a u T w h he hk
end Go.Proofs.YtdehldcgakdobaaGreatDoor.Sc
