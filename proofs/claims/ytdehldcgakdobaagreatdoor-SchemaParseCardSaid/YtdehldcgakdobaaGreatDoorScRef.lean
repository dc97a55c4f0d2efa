/- The reference's names, distinct, far. -/
import Derived.Test.YtdehldcgakdobaaGreatDoorScOpen
import Derived.Test.YtdehldcgakdobaaGreatDoorLxRefW
namespace Go.Proofs.YtdehldcgakdobaaGreatDoor.Sc
open Go.RowKit Go.Lib Go.Proofs.YtdehldcgakdobaaGreatDoor.Bas Go.Proofs.YtdehldcgakdobaaGreatDoor.Cal Go.Proofs.YtdehldcgakdobaaGreatDoor.Lx
set_option linter.unusedVariables false

theorem rfar_any (n : Int) (w : World) (h0 : -9223372036854775808 ≤ n) (h1 : n ≤ 9223372036854775807) : Calls Tryz.prog 64 #[.int .i64 n] w (BoolSame (farB n) w) := by
  unfold farB
  by_cases t : 1000000000 < n
  · have t1 : decide ((1000000000 : Int) < n) = true := by simpa using t
    rw [show decide (n > 1000000000) = true from t1, Bool.true_or]
    go_enter Tryz.func64, Tryz.ntmps64
    go_wp2_with fail
    go_ret
    exact ⟨rfl, rfl⟩
  · have t1 : decide ((1000000000 : Int) < n) = false := by simpa using t
    rw [show decide (n > 1000000000) = false from t1, Bool.false_or]
    by_cases s : n < -1000000000
    · have s1 : decide (n < (-1000000000 : Int)) = true := by simpa using s
      rw [s1]
      go_enter Tryz.func64, Tryz.ntmps64
      go_wp2_with fail
      go_ret
      exact ⟨rfl, rfl⟩
    · have s1 : decide (n < (-1000000000 : Int)) = false := by simpa using s
      rw [s1]
      go_enter Tryz.func64, Tryz.ntmps64
      go_wp2_with fail
      go_ret
      exact ⟨rfl, rfl⟩
theorem ret_b {a b : Bool} (h : a = b) : Ending.returned (.bool a) = .returned (.bool b) := by rw [h]
theorem names_no {l : List (List UInt8)} {k : Nat} (hk : k < l.length) (h : nameB (l.getD k []) = false) : namesB l = false := by
  unfold namesB
  apply decide_eq_false
  intro hh
  rw [hh k hk] at h; cases h
theorem rname_tx (x : List UInt8) (w : World) (h : x.length ≤ 9223372036854775807) : Calls Tryz.prog 42 #[.string (tx x)] w (BoolSame (nameB x) w) := by
  have := rname_any (tx x) w (by rw [tx_size]; exact h)
  rw [bl_tx] at this
  exact this
set_option maxHeartbeats 4000000 in
theorem rnames_any (u : Value) (l : List (List UInt8)) (w : World) (h : StrsAt w u l) (hw : WsWf l) : Calls Tryz.prog 62 #[u] w (BoolSame (namesB l) w) := by
  obtain ⟨p, c, rfl, _, hp⟩ := h
  obtain ⟨n, hn⟩ : ∃ n, l.length = n := ⟨_, rfl⟩
  have hn' := Lib.hid hn
  obtain ⟨hl, hx⟩ := hw
  have hx' := Lib.hid hx
  have hp' := Lib.hid hp
  have hR := Lib.hid (show ∀ k, k < l.length → nameB (l.getD k []) = false → namesB l = false from fun k hk => names_no hk)
  have hY := Lib.hid (show (∀ j, j < l.length → nameB (l.getD j []) = true) → namesB l = true from fun h => decide_eq_true h)
  rw [hn] at hl hR hY ⊢
  generalize namesB l = B at *
  clear hn hp hx
  go_enter Tryz.func62, Tryz.ntmps62
  go_wp2_with fail
  go_loopw [3] (fun i wr => ∃ k : Nat, k ≤ n ∧ i = .int .i64 k ∧ wr = w ∧ Hid (∀ j, j < k → nameB (l.getD j []) = true)) (fun i _ => n - (RowKit.intOf i).toNat)
  case atStart => exact ⟨0, Nat.zero_le _, rfl, rfl, Lib.hid (fun j hj => absurd hj (Nat.not_lt_zero _))⟩
  case round =>
    obtain ⟨k, hk, rfl, rfl, hA⟩ := hrel
    by_cases hlt : k < n
    · obtain ⟨b, off, rfl, hc⟩ := hp'.out (by rw [hn'.out]; omega)
      have h1 := hc k (by rw [hn'.out]; exact hlt)
      have hgl : (l.getD k []).length ≤ 9223372036854775807 := by
        have hkl : k < l.length := by rw [hn'.out]; exact hlt
        rw [List.getD_eq_getElem?_getD, List.getElem?_eq_getElem hkl]
        exact hx'.out _ (List.getElem_mem _)
      have cN := Lib.hid (rname_tx (l.getD k []) wr hgl)
      have hno := Lib.hid (hR.out k hlt)
      have hye := Lib.hid (fun (h : nameB (l.getD k []) = true) => (show ∀ j, j < k + 1 → nameB (l.getD j []) = true from fun j hj => by
        by_cases e : j = k
        · rw [e]; exact h
        · exact hA.out j (by omega)))
      clear hc hgl
      generalize nameB (l.getD k []) = q at *
      generalize tx (l.getD k []) = s at *
      have hk64 : IntKind.i64.wrap ((k : Int) + 1) = (k : Int) + 1 := IntWalk.i64_in _ (by omega)
      go_wp2_with fail
      refine cN.out.mono ?_; rintro e w' ⟨rfl, rfl⟩
      cases q with
      | true =>
        have hA2 := Lib.hid (hye.out rfl)
        clear hye hno cN h1
        go_wp2_with fail
        go_roundw
        case rel => exact ⟨k + 1, by omega, by go_num, by first | rfl | trivial, hA2⟩
        case measure => simp [RowKit.intOf]; omega
      | false =>
        have hB := Lib.hid (hno.out rfl)
        clear hye hno cN h1
        go_wp2_with fail
        go_ret
        exact ⟨ret_b hB.out.symm, rfl⟩
    · have hB := Lib.hid (hY.out (fun j hj => hA.out j (by omega)))
      go_wp2_with fail
      go_ret
      exact ⟨ret_b hB.out.symm, rfl⟩
theorem dist_no {l : List (List UInt8)} {i k : Nat} (hi : i < l.length) (hk : k < i) (h : l.getD i [] = l.getD k []) : distB l = false := by
  unfold distB
  apply decide_eq_false
  intro hh
  exact hh i hi k hk h
theorem tx_inj {x y : List UInt8} (h : tx x = tx y) : x = y := by
  have := congrArg bl h
  rwa [bl_tx, bl_tx] at this
theorem tx_test (x y : List UInt8) : ((tx x).toList == (tx y).toList) = decide (x = y) := by
  rw [toList_bl, toList_bl, bl_tx, bl_tx]
  by_cases h : x = y
  · simp [h]
  · rw [decide_eq_false h]; simpa using h
/-- Nothing but draws. -/
def BoolDr2 (b : Bool) (w : World) (e : Ending) (w' : World) : Prop := e = .returned (.bool b) ∧ Dr w w'
set_option maxHeartbeats 8000000 in
theorem rdist_any (u : Value) (l : List (List UInt8)) (w : World) (h : StrsAt w u l) (hw : WsWf l) : Calls Tryz.prog 63 #[u] w (BoolDr2 (distB l) w) := by
  obtain ⟨p, c, rfl, _, hp⟩ := h
  obtain ⟨n, hn⟩ : ∃ n, l.length = n := ⟨_, rfl⟩
  have hn' := Lib.hid hn
  obtain ⟨hl, hx⟩ := hw
  have hp' := Lib.hid hp
  have hR := Lib.hid (show ∀ i, i < l.length → ∀ k, k < i → l.getD i [] = l.getD k [] → distB l = false from fun i hi k hk h => dist_no hi hk h)
  have hY := Lib.hid (show (∀ i, i < l.length → ∀ k, k < i → l.getD i [] ≠ l.getD k []) → distB l = true from fun h => decide_eq_true h)
  rw [hn] at hl hR hY ⊢
  generalize distB l = B at *
  clear hn hp hx
  go_enter Tryz.func63, Tryz.ntmps63
  go_wp2_with fail
  go_loopw [3] (fun i wr => ∃ k : Nat, k ≤ n ∧ i = .int .i64 k ∧ Hid (Dr w wr) ∧ Hid (∀ j, j < k → ∀ m, m < j → l.getD j [] ≠ l.getD m [])) (fun i _ => n - (RowKit.intOf i).toNat)
  case atStart => exact ⟨0, Nat.zero_le _, rfl, Lib.hid (Dr.refl w), Lib.hid (fun j hj => absurd hj (Nat.not_lt_zero _))⟩
  case round =>
    obtain ⟨i, hi, rfl, hD, hA⟩ := hrel
    by_cases hlt : i < n
    · obtain ⟨b, off, rfl, hc⟩ := hp'.out (by rw [hn'.out]; omega)
      have hi64 : IntKind.i64.wrap ((i : Int) + 1) = (i : Int) + 1 := IntWalk.i64_in _ (by omega)
      have hc' := Lib.hid hc
      clear hc
      go_wp2_with fail
      go_loopw [4] (fun x wr2 => ∃ k : Nat, k ≤ i ∧ x = .int .i64 k ∧ Hid (Dr w wr2) ∧ Hid (∀ m, m < k → l.getD i [] ≠ l.getD m [])) (fun x _ => i - (RowKit.intOf x).toNat)
      case atStart => exact ⟨0, Nat.zero_le _, rfl, hD, Lib.hid (fun j hj => absurd hj (Nat.not_lt_zero _))⟩
      case round =>
        obtain ⟨k, hk, rfl, hD2, hA2⟩ := hrel
        by_cases hki : k < i
        · have h1 := hc'.out i (by rw [hn'.out]; exact hlt)
          have h2 := hc'.out k (by rw [hn'.out]; omega)
          obtain ⟨nd, hnd⟩ := hD2.out
          subst hnd
          have hk64 : IntKind.i64.wrap ((k : Int) + 1) = (k : Int) + 1 := IntWalk.i64_in _ (by omega)
          have hkn : k < n := by omega
          have tt := tx_test (l.getD i []) (l.getD k [])
          have hno := Lib.hid (hR.out i hlt k hki)
          have hye := Lib.hid (fun (h : l.getD i [] ≠ l.getD k []) => (show ∀ m, m < k + 1 → l.getD i [] ≠ l.getD m [] from fun m hm => by
            by_cases e : m = k
            · rw [e]; exact h
            · exact hA2.out m (by omega)))
          generalize l.getD i [] = x at *
          generalize l.getD k [] = y at *
          by_cases hxy : x = y
          · rw [decide_eq_true hxy] at tt
            have hB := Lib.hid (hno.out hxy)
            clear hxy hno hye
            generalize tx x = sx at *
            generalize tx y = sy at *
            go_wp2_with fail
            go_quiet (fail)
            go_wp2_with fail
            go_ret
            exact ⟨ret_b hB.out.symm, Dr.trans ⟨nd, rfl⟩ ⟨_, rfl⟩⟩
          · rw [decide_eq_false hxy] at tt
            have hA3 := Lib.hid (hye.out hxy)
            clear hxy hno hye
            generalize tx x = sx at *
            generalize tx y = sy at *
            go_wp2_with fail
            go_quiet (fail)
            go_wp2_with fail
            go_roundw
            case rel => exact ⟨k + 1, by omega, by go_num, Lib.hid (⟨_, rfl⟩), hA3⟩
            case measure => simp [RowKit.intOf]; omega
        · have hA4 := Lib.hid (show ∀ j, j < i + 1 → ∀ m, m < j → l.getD j [] ≠ l.getD m [] from fun j hj m hm => by
            by_cases e : j = i
            · subst e; exact hA2.out m (by omega)
            · exact hA.out j (by omega) m hm)
          clear hA hA2 hc' hD
          go_wp2_with fail
          go_roundw
          case rel => exact ⟨i + 1, by omega, by go_num, hD2, hA4⟩
          case measure => simp [RowKit.intOf]; omega
    · have hB := Lib.hid (hY.out (fun j hj => hA.out j (by omega)))
      go_wp2_with fail
      go_ret
      exact ⟨ret_b hB.out.symm, hD.out⟩
end Go.Proofs.YtdehldcgakdobaaGreatDoor.Sc
