/- SameInts, the sanity check, and words on rows that the statements about package split share. -/
import Derived.Test.YtnjghcncibogeaaSplit
import Derived.Test.YtnjghcncibogeaaDeck
namespace Go.Proofs.Ytnjghcncibogeaa.Spl
open Go.RowKit Go.Lib Go.Proofs.Ytnjghcncibogeaa.Bas Go.Proofs.Ytnjghcncibogeaa.Dk
set_option linter.unusedVariables false

theorem row_form {t : TypeId} {kd : IntKind} {B : Nat} {w : World} {v : Value} {L : List Int} (h : Row t kd B w v L) (h0 : 0 < L.length) :
    ∃ g c, v = .slice (some ⟨g, 0, none⟩) L.length c ∧ B ≤ g ∧ g < w.heap.size ∧ ∀ j, j < L.length → w.cell? ⟨g, j, none⟩ = some (.int kd (L.getD j 0)) := by
  obtain ⟨p, c, rfl, h2⟩ := h.shape
  obtain ⟨g, rfl, h3, h4, h5⟩ := h2 h0
  exact ⟨g, c, rfl, h3, h4, h5⟩
theorem take_snoc_eq {la lb : List Int} {k : Nat} (ha : k < la.length) (hb : k < lb.length) (h : la.take k = lb.take k) (e : la.getD k 0 = lb.getD k 0) : la.take (k + 1) = lb.take (k + 1) := by
  rw [List.take_succ_eq_append_getElem ha, List.take_succ_eq_append_getElem hb, h]
  rw [List.getD_eq_getElem?_getD, List.getD_eq_getElem?_getD, List.getElem?_eq_getElem ha, List.getElem?_eq_getElem hb] at e
  simp only [Option.getD_some] at e
  rw [e]

/-- A Bool is handed back; the world is as it was but for draws. -/
def BoolDr (b : Bool) (w : World) (e : Ending) (w' : World) : Prop := e = .returned (.bool b) ∧ Dr w w'
set_option maxHeartbeats 1000000 in
theorem same_any (va vb : Value) (la lb : List Int) (w : World) (ha : IntsAt w va la) (hb : IntsAt w vb lb) (hla : la.length ≤ 9223372036854775807) (hlb : lb.length ≤ 9223372036854775807) :
    Calls Try.prog 17 #[va, vb] w (BoolDr (decide (la = lb)) w) := by
  obtain ⟨p, c, rfl, hp⟩ := ha
  obtain ⟨q, d, rfl, hq⟩ := hb
  by_cases hlen : la.length = lb.length
  · obtain ⟨n, hn⟩ : ∃ n, la.length = n := ⟨_, rfl⟩
    rw [hn] at hlen hp hla ⊢
    rw [← hlen] at hq hlb ⊢
    have hn' := Lib.hid hn
    have hm' := Lib.hid hlen
    have hp' := Lib.hid hp
    have hq' := Lib.hid hq
    clear hn hlen hp hq
    go_enter Try.func17, Try.ntmps17
    go_wp2_with fail
    go_loopw [5] (fun i wr => ∃ k : Nat, k ≤ n ∧ i = .int .i64 k ∧ Hid (la.take k = lb.take k) ∧ Hid (Dr w wr)) (fun i _ => n - (RowKit.intOf i).toNat)
    case atStart => exact ⟨0, Nat.zero_le _, rfl, Lib.hid (by simp), Lib.hid (Dr.refl w)⟩
    case round =>
      obtain ⟨k, hk, rfl, hT, hD⟩ := hrel
      obtain ⟨nd, rfl⟩ := hD.out
      by_cases hlt : k < n
      · obtain ⟨b1, o1, rfl, hc1⟩ := hp'.out (by omega)
        obtain ⟨b2, o2, rfl, hc2⟩ := hq'.out (by omega)
        have c1 := hc1 k hlt
        have c2 := hc2 k hlt
        have hs := Lib.hid (take_snoc_eq (la := la) (lb := lb) (k := k) (by rw [hn'.out]; exact hlt) (by rw [← hm'.out]; exact hlt) hT.out)
        have hne : la.getD k 0 ≠ lb.getD k 0 → la ≠ lb := fun h e => h (by rw [e])
        have hne' := Lib.hid hne
        have hlt1 : (k : Int) < (n : Int) := by omega
        clear hc1 hc2 hne
        generalize la.getD k 0 = x at *
        generalize lb.getD k 0 = y at *
        by_cases hxy : x = y
        · subst hxy
          go_wp2_with fail
          go_quiet (fail)
          go_wp2_with fail
          go_roundw
          case rel => exact ⟨k + 1, by omega, by go_num, Lib.hid (hs.out (by trivial)), Lib.hid ⟨_, rfl⟩⟩
          case measure => simp [RowKit.intOf]; omega
        · have e1 : (x == y) = false := by simpa using hxy
          have e2 : (x != y) = true := by simpa using hxy
          have e3 : decide (la = lb) = false := decide_eq_false (hne'.out hxy)
          have hfin : ∀ a, BoolDr (decide (la = lb)) w (.returned (.bool false)) ((w.drewN nd).drewN a) := fun a => ⟨by rw [e3], hD.out.trans ⟨_, rfl⟩⟩
          have hfin' := Lib.hid hfin
          clear hfin e3
          go_wp2_with fail
          go_quiet (fail)
          go_wp2_with fail
          go_ret
          exact hfin'.out _
      · obtain rfl : k = n := by omega
        have e3 : decide (la = lb) = true := decide_eq_true (by have := hT.out; rwa [List.take_of_length_le (by rw [hn'.out]; exact Nat.le_refl _), List.take_of_length_le (by rw [← hm'.out]; exact Nat.le_refl _)] at this)
        have hfin : BoolDr (decide (la = lb)) w (.returned (.bool true)) (w.drewN nd) := ⟨by rw [e3], ⟨_, rfl⟩⟩
        have hfin' := Lib.hid hfin
        clear hfin e3
        go_wp2_with fail
        go_ret
        exact hfin'.out
  · have e3 : decide (la = lb) = false := decide_eq_false fun e => hlen (by rw [e])
    have hfin : BoolDr (decide (la = lb)) w (.returned (.bool false)) w := ⟨by rw [e3], Dr.refl w⟩
    have hfin' := Lib.hid hfin
    generalize la.length = n at *
    generalize lb.length = m at *
    have e1 : ((n : Int) == (m : Int)) = false := by simp; omega
    have e2 : ((n : Int) != (m : Int)) = true := by simp; omega
    clear hfin e3 hp hq
    go_enter Try.func17, Try.ntmps17
    go_wp2_with fail
    go_ret
    exact hfin'.out

/-- Within(x, n) for a number n that is not 0. -/
def wi (x n : Int) : Int := (x.tmod n + n) % n
theorem wi_eq (x n : Int) (h : 0 < n) : wi x n = x % n := by
  unfold wi
  rw [Int.add_emod_right, Int.tmod_eq_emod]
  split
  · simp
  · have : ((n.natAbs : Int)) = n := by omega
    rw [this, Int.sub_emod, Int.emod_self, Int.emod_emod_of_dvd _ (Int.dvd_refl n)]; simp
theorem wi_bd (x n : Int) (h : 0 < n) : 0 ≤ wi x n ∧ wi x n < n := by
  rw [wi_eq x n h]; exact ⟨Int.emod_nonneg _ (by omega), Int.emod_lt_of_pos _ h⟩
theorem within_any (x n : Int) (w : World) (h0 : 0 < n) (h1 : n ≤ 1000000000000000) (hx : -9223372036854775808 ≤ x) (hy : x ≤ 9223372036854775807) :
    Calls Try.prog 19 #[.int .i64 x, .int .i64 n] w fun e w' => e = .returned (.int .i64 (wi x n)) ∧ w = w' := by
  have b1 := Int.lt_tmod_of_pos x h0
  have b2 := Int.tmod_lt_of_pos x h0
  have hn : (n == 0) = false := by simp; omega
  go_enter Try.func19, Try.ntmps19
  go_wp2
  go_ret
  exact ⟨rfl, rfl⟩

theorem sanity : splitV 10 [1, 1, 1] = ([4, 3, 3], 0) := by decide
/-- A Bool is handed back; of before nothing has changed. -/
def BoolBe (b : Bool) (w : World) (e : Ending) (w' : World) : Prop := e = .returned (.bool b) ∧ Below w.heap.size w w'
theorem lit_ints (w : World) (L : List Int) (hL : L.length ≤ maxLen) : IntsAt (w.alloc (.cells (L.map (Value.int .i64)).toArray 3)) (.slice (some ⟨w.heap.size, 0, none⟩) L.length L.length) L := by
  have := World.ownsRow_lit (e := 3) (size := 1) (base := w.heap.size) w (L.map (Value.int .i64)).toArray L.length (Nat.le_refl _) hL (by simp)
  have h : Row 3 .i64 w.heap.size (w.alloc (.cells (L.map (Value.int .i64)).toArray 3)) (.slice (some ⟨w.heap.size, 0, none⟩) L.length L.length) L := by
    unfold Row; simpa using this
  exact h.ints
set_option maxHeartbeats 1000000 in
theorem awake_any (w : World) : Calls Try.prog 11 #[] w (BoolBe true w) := by
  have h1 := split_any 10 _ _ _ (lit_ints w [1, 1, 1] (by simp [maxLen])) (by simp) (by omega) (by omega)
  rw [sanity] at h1
  have h1' := Lib.hid h1
  clear h1
  go_enter Try.func11, Try.ntmps11
  go_wp2_with fail
  refine h1'.out.mono ?_; rintro e w1 ⟨u, rfl, hR, hB⟩
  have hB1 : Below w.heap.size w w1 := ((Below.refl _ _).alloc (Nat.le_refl _) _).trans (hB.mono (by simp))
  have hI2 := lit_ints w1 [4, 3, 3] (by simp [maxLen])
  have hI1 := hR.ints.below ((Below.refl _ _).alloc (Nat.le_refl _) (.cells (([4, 3, 3] : List Int).map (Value.int .i64)).toArray 3))
  have hs := same_any _ _ _ _ _ hI1 hI2 (by simp) (by simp)
  have hs' := Lib.hid hs
  have hB1' := Lib.hid hB1
  have hsz := hB1.size
  clear hR hB hI1 hI2 hs hB1
  go_wp2_with fail
  refine hs'.out.mono ?_; rintro e w2 ⟨rfl, hd⟩
  have hfin : BoolBe true w (.returned (.bool true)) w2 := ⟨rfl, below_dr (hB1'.out.alloc hsz _) hd⟩
  have hfin' := Lib.hid hfin
  clear hd hfin
  go_wp2_with fail
  go_ret
  exact hfin'.out
end Go.Proofs.Ytnjghcncibogeaa.Spl
