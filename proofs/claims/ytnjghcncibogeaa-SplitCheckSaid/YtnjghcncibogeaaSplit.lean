/- Split of package split: what it returns, for all arguments. -/
import Derived.Test.YtnjghcncibogeaaSplDiv
namespace Go.Proofs.Ytnjghcncibogeaa.Spl
open Go.RowKit Go.Lib Go.Proofs.Ytnjghcncibogeaa.Bas
set_option linter.unusedVariables false

/-- The parts with their sign. -/
def sg (a : Int) (M : List Nat) : List Int := M.map fun x : Nat => if a < 0 then -(x : Int) else (x : Int)
theorem sg_length (a : Int) (M : List Nat) : (sg a M).length = M.length := by simp [sg]
theorem sg_getD (a : Int) (M : List Nat) (i : Nat) : (sg a M).getD i 0 = if a < 0 then -(wt M i : Int) else (wt M i : Int) := by
  unfold sg wt
  rw [List.getD_eq_getElem?_getD, List.getD_eq_getElem?_getD, List.getElem?_map]
  cases M[i]? <;> simp
/-- The first k with their sign. -/
def sgL (s : Int) (M : List Nat) (k : Nat) : List Int := (List.range M.length).map fun i => if i < k then (wt M i : Int) * s else (wt M i : Int)
theorem sgL_length (s : Int) (M : List Nat) (k : Nat) : (sgL s M k).length = M.length := by simp [sgL]
theorem sgL_zero (s : Int) (M : List Nat) : sgL s M 0 = ofN M := by
  apply List.ext_getElem
  · simp [sgL, ofN]
  · intro i h1 h2
    have h3 : i < M.length := by simpa [sgL] using h1
    simp [sgL, ofN, wt, List.getD_eq_getElem?_getD, h3]
theorem sgL_at (s : Int) (M : List Nat) (k : Nat) (h : k < M.length) : (sgL s M k).getD k 0 = (wt M k : Int) := by
  simp [sgL, List.getD_eq_getElem?_getD, h]
theorem sgL_set (s : Int) (M : List Nat) (k : Nat) : (sgL s M k).set k ((wt M k : Int) * s) = sgL s M (k + 1) := by
  apply List.ext_getElem
  · simp [sgL]
  · intro i h1 h2
    rw [List.getElem_set]
    by_cases h : k = i
    · subst h; simp [sgL]
    · rw [if_neg h]
      have : (i < k + 1) ↔ i < k := by omega
      simp [sgL, this]
theorem sgL_full (a : Int) (M : List Nat) : sgL (if a < 0 then -1 else 1) M M.length = sg a M := by
  apply List.ext_getElem
  · simp [sgL, sg]
  · intro i h1 h2
    have h3 : i < M.length := by simpa [sgL] using h1
    by_cases ha : a < 0 <;> simp [sgL, sg, wt, List.getD_eq_getElem?_getD, h3, ha]

/-- What Split returns: the parts and the error. -/
def splitV (a : Int) (l : List Int) : List Int × Int :=
  if l.length = 0 then ([], 19) else if 64 < l.length then ([], 4) else if ¬ okI a then ([], 1) else if ¬ ∀ x ∈ l, okW x then ([], 1) else
    if W (l.map Int.toNat) = 0 then ([], 2) else (sg a (parts a.natAbs (l.map Int.toNat)), 0)
theorem toNat_ofN (m : List Nat) : (ofN m).map Int.toNat = m := by
  unfold ofN; rw [List.map_map]
  have : (Int.toNat ∘ fun x : Nat => (x : Int)) = id := by funext x; simp
  rw [this, List.map_id]
theorem ofN_ok (m : List Nat) (h : ∀ x ∈ m, x ≤ 17592186044416) : ∀ x ∈ ofN m, okW x := by
  intro x hx
  obtain ⟨y, hy, rfl⟩ := List.mem_map.1 hx
  have := h y hy
  unfold okW; omega
theorem splitV_ok (a : Int) (m : List Nat) (h0 : 0 < m.length) (h64 : m.length ≤ 64) (ha : okI a) (hm : ∀ x ∈ m, x ≤ 17592186044416) (hW : 0 < W m) : splitV a (ofN m) = (sg a (parts a.natAbs m), 0) := by
  unfold splitV
  rw [ofN_length, if_neg (by omega), if_neg (by omega), if_neg (by simpa using ha), if_neg (by simpa using ofN_ok m hm), toNat_ofN, if_neg (by omega)]

/-- Two results: a new row of ints and a number. -/
def Out2 (R : List Int × Int) (w : World) (e : Ending) (w' : World) : Prop := ∃ u, e = .returned (.tuple #[u, .int .i64 R.2]) ∧ Row 3 .i64 w.heap.size w' u R.1 ∧ Below w.heap.size w w'
theorem row_nil (B : Nat) (w : World) : Row 3 .i64 B w (.slice none 0 0) [] := World.ownsRow_nil w B _ 1
theorem Out2.none (E : Int) (w : World) : Out2 ([], E) w (.returned (.tuple #[.slice none 0 0, .int .i64 E])) w := ⟨_, rfl, row_nil _ _, Below.refl _ _⟩

set_option maxHeartbeats 2000000 in
theorem split_pos (b : Nat) (v : Value) (l : List Nat) (w : World) (h : IntsAt w v (ofN l)) (hn : 0 < l.length) (h64 : l.length ≤ 64) (hb : b ≤ 17592186044416) (hl : ∀ x ∈ l, x ≤ 17592186044416) (hs0 : 0 < W l) :
    Calls Try.prog 12 #[.int .i64 (b : Int), v] w (Out2 (sg (b : Int) (parts b l), 0) w) := by
  have hsgl := sgL_full (b : Int) (parts b l)
  rw [show (if (b : Int) < 0 then (-1 : Int) else 1) = 1 by first | rw [if_pos (by omega)] | rw [if_neg (by omega)]] at hsgl
  have hplen : (parts b l).length = l.length := by simp [parts]
  have hpb : ∀ k, k < l.length → wt (parts b l) k ≤ 17592186044416 := fun k hk => by
    have e1 : wt (parts b l) k = part b l k := wt_map_range _ _ _ hk
    have := part_le' b l hs0 k hk
    omega
  rw [hplen] at hsgl
  obtain ⟨n, hnn⟩ : ∃ n, l.length = n := ⟨_, rfl⟩
  obtain ⟨s, hs⟩ : ∃ s, W l = s := ⟨_, rfl⟩
  have hokl : ∀ x ∈ ofN l, okW x := ofN_ok l hl
  have c1 := Lib.hid (valid_var (b : Int) true (by rw [decide_eq_true]; unfold okI; omega))
  have c2 := Lib.hid (allin_any v (ofN l) true (by rw [decide_eq_true hokl]) w h (by rw [ofN_length]; omega))
  have c3 := Lib.hid (sum_any v l w h h64 (fun x hx => by have := hl x hx; omega) s hs)
  have c4 := Lib.hid (divide_any b v l w h hn h64 hl hb s hs (by omega))
  obtain ⟨p, c, rfl, hp⟩ := h
  rw [ofN_length] at *
  rw [hnn] at hn h64 hsgl hplen hpb c2 c3 c4 ⊢
  rw [hs] at hs0
  have hsb : ((s : Int) == 0) = false := by simp; omega
  have hnb : ((n : Int) == 0) = false := by simp; omega
  have hsgl' := Lib.hid hsgl
  have hplen' := Lib.hid hplen
  have hpb' := Lib.hid hpb
  clear hp hsgl hplen hpb hokl hl hnn hs
  go_enter Try.func12, Try.ntmps12
  go_wp2_with fail
  refine (c1.out _).mono ?_; rintro e w' ⟨rfl, rfl⟩
  go_wp2_with fail
  refine c2.out.mono ?_; rintro e w' ⟨rfl, rfl⟩
  go_wp2_with fail
  refine c3.out.mono ?_; rintro e w' ⟨rfl, rfl⟩
  go_wp2_with fail
  refine c4.out.mono ?_; rintro e w' ⟨g, rfl, hrow, hbel⟩
  rw [hplen'.out] at hrow ⊢
  have hrow0 : Row 3 .i64 w.heap.size w' (.slice (some ⟨g, 0, none⟩) n n) (sgL 1 (parts b l) 0) := by rw [sgL_zero]; exact hrow
  have hrow1 := Lib.hid hrow0
  have hbel' := Lib.hid hbel
  have hg := (row_at hrow hn).1
  clear hrow hrow0 hbel
  go_wp2_with fail
  go_loopw [41] (fun i wr => ∃ k : Nat, k ≤ n ∧ i = .int .i64 k ∧ Hid (Row 3 .i64 w.heap.size wr (.slice (some ⟨g, 0, none⟩) n n) (sgL 1 (parts b l) k)) ∧ Hid (Below w.heap.size w wr)) (fun i _ => n - (RowKit.intOf i).toNat)
  case atStart => exact ⟨0, Nat.zero_le _, rfl, hrow1, hbel'⟩
  case round =>
    obtain ⟨k, hk, rfl, hP, hB⟩ := hrel
    by_cases hlt : k < n
    · have c5 : wr.cell? ⟨g, k, none⟩ = some (.int .i64 (wt (parts b l) k)) := by
        obtain ⟨q2, cc2, h1, h2⟩ := hP.out.shape
        simp only [Value.slice.injEq, sgL_length] at h1 h2
        obtain ⟨g', h3, _, _, hcell⟩ := h2 (by rw [hplen'.out]; omega)
        rw [← h1.1] at h3; cases h3
        rw [hcell k (by rw [hplen'.out]; omega), sgL_at _ _ _ (by rw [hplen'.out]; omega)]
      have f5 := hP.out.frozen k
      have s5 := hP.out.store k ((wt (parts b l) k : Int) * 1)
      rw [sgL_set] at s5
      have s5' := Lib.hid s5
      have b5 := hpb'.out k hlt
      clear s5
      generalize wt (parts b l) k = z at *
      go_wp2_with fail
      go_roundw
      case rel => exact ⟨k + 1, by omega, by go_num, Lib.hid (by have h := s5'.out; simp at h ⊢; exact h), Lib.hid (hB.out.setCell hg _)⟩
      case measure => simp [RowKit.intOf]; omega
    · obtain rfl : k = n := by omega
      rw [hsgl'.out] at hP
      have hfin : Out2 (sg (b : Int) (parts b l), 0) w (.returned (.tuple #[.slice (some ⟨g, 0, none⟩) k k, .int .i64 0])) wr := ⟨_, rfl, hP.out, hB.out⟩
      have hfin' := Lib.hid hfin
      clear hfin
      go_wp2_with fail
      go_ret2
      exact hfin'.out

set_option maxHeartbeats 2000000 in
theorem split_neg (b : Nat) (v : Value) (l : List Nat) (w : World) (h : IntsAt w v (ofN l)) (hn : 0 < l.length) (h64 : l.length ≤ 64) (hb0 : 0 < b) (hb : b ≤ 17592186044416) (hl : ∀ x ∈ l, x ≤ 17592186044416) (hs0 : 0 < W l) :
    Calls Try.prog 12 #[.int .i64 (-(b : Int)), v] w (Out2 (sg (-(b : Int)) (parts b l), 0) w) := by
  have hsgl := sgL_full (-(b : Int)) (parts b l)
  rw [show (if (-(b : Int)) < 0 then (-1 : Int) else 1) = (-1) by first | rw [if_pos (by omega)] | rw [if_neg (by omega)]] at hsgl
  have hplen : (parts b l).length = l.length := by simp [parts]
  have hpb : ∀ k, k < l.length → wt (parts b l) k ≤ 17592186044416 := fun k hk => by
    have e1 : wt (parts b l) k = part b l k := wt_map_range _ _ _ hk
    have := part_le' b l hs0 k hk
    omega
  rw [hplen] at hsgl
  obtain ⟨n, hnn⟩ : ∃ n, l.length = n := ⟨_, rfl⟩
  obtain ⟨s, hs⟩ : ∃ s, W l = s := ⟨_, rfl⟩
  have hokl : ∀ x ∈ ofN l, okW x := ofN_ok l hl
  have c1 := Lib.hid (valid_var (-(b : Int)) true (by rw [decide_eq_true]; unfold okI; omega))
  have c2 := Lib.hid (allin_any v (ofN l) true (by rw [decide_eq_true hokl]) w h (by rw [ofN_length]; omega))
  have c3 := Lib.hid (sum_any v l w h h64 (fun x hx => by have := hl x hx; omega) s hs)
  have c4 := Lib.hid (divide_any b v l w h hn h64 hl hb s hs (by omega))
  obtain ⟨p, c, rfl, hp⟩ := h
  rw [ofN_length] at *
  rw [hnn] at hn h64 hsgl hplen hpb c2 c3 c4 ⊢
  rw [hs] at hs0
  have hsb : ((s : Int) == 0) = false := by simp; omega
  have hnb : ((n : Int) == 0) = false := by simp; omega
  have hsgl' := Lib.hid hsgl
  have hplen' := Lib.hid hplen
  have hpb' := Lib.hid hpb
  clear hp hsgl hplen hpb hokl hl hnn hs
  go_enter Try.func12, Try.ntmps12
  go_wp2_with fail
  refine (c1.out _).mono ?_; rintro e w' ⟨rfl, rfl⟩
  go_wp2_with fail
  refine c2.out.mono ?_; rintro e w' ⟨rfl, rfl⟩
  go_wp2_with fail
  refine c3.out.mono ?_; rintro e w' ⟨rfl, rfl⟩
  go_wp2_with fail
  refine c4.out.mono ?_; rintro e w' ⟨g, rfl, hrow, hbel⟩
  rw [hplen'.out] at hrow ⊢
  have hrow0 : Row 3 .i64 w.heap.size w' (.slice (some ⟨g, 0, none⟩) n n) (sgL (-1) (parts b l) 0) := by rw [sgL_zero]; exact hrow
  have hrow1 := Lib.hid hrow0
  have hbel' := Lib.hid hbel
  have hg := (row_at hrow hn).1
  clear hrow hrow0 hbel
  go_wp2_with fail
  go_loopw [41] (fun i wr => ∃ k : Nat, k ≤ n ∧ i = .int .i64 k ∧ Hid (Row 3 .i64 w.heap.size wr (.slice (some ⟨g, 0, none⟩) n n) (sgL (-1) (parts b l) k)) ∧ Hid (Below w.heap.size w wr)) (fun i _ => n - (RowKit.intOf i).toNat)
  case atStart => exact ⟨0, Nat.zero_le _, rfl, hrow1, hbel'⟩
  case round =>
    obtain ⟨k, hk, rfl, hP, hB⟩ := hrel
    by_cases hlt : k < n
    · have c5 : wr.cell? ⟨g, k, none⟩ = some (.int .i64 (wt (parts b l) k)) := by
        obtain ⟨q2, cc2, h1, h2⟩ := hP.out.shape
        simp only [Value.slice.injEq, sgL_length] at h1 h2
        obtain ⟨g', h3, _, _, hcell⟩ := h2 (by rw [hplen'.out]; omega)
        rw [← h1.1] at h3; cases h3
        rw [hcell k (by rw [hplen'.out]; omega), sgL_at _ _ _ (by rw [hplen'.out]; omega)]
      have f5 := hP.out.frozen k
      have s5 := hP.out.store k ((wt (parts b l) k : Int) * (-1))
      rw [sgL_set] at s5
      have s5' := Lib.hid s5
      have b5 := hpb'.out k hlt
      clear s5
      generalize wt (parts b l) k = z at *
      go_wp2_with fail
      go_roundw
      case rel => exact ⟨k + 1, by omega, by go_num, Lib.hid (by have h := s5'.out; simp at h ⊢; exact h), Lib.hid (hB.out.setCell hg _)⟩
      case measure => simp [RowKit.intOf]; omega
    · obtain rfl : k = n := by omega
      rw [hsgl'.out] at hP
      have hfin : Out2 (sg (-(b : Int)) (parts b l), 0) w (.returned (.tuple #[.slice (some ⟨g, 0, none⟩) k k, .int .i64 0])) wr := ⟨_, rfl, hP.out, hB.out⟩
      have hfin' := Lib.hid hfin
      clear hfin
      go_wp2_with fail
      go_ret2
      exact hfin'.out

set_option maxHeartbeats 1000000 in
theorem split_any (a : Int) (v : Value) (l : List Int) (w : World) (h : IntsAt w v l) (hl : l.length ≤ 9223372036854775807) (b1 : -9223372036854775808 ≤ a) (b2 : a ≤ 9223372036854775807) :
    Calls Try.prog 12 #[.int .i64 a, v] w (Out2 (splitV a l) w) := by
  by_cases h0 : l.length = 0
  · have e : splitV a l = ([], 19) := by unfold splitV; rw [if_pos h0]
    rw [e]
    have hO := Lib.hid (Out2.none 19 w)
    obtain ⟨p, c, rfl, hp⟩ := h
    rw [h0]
    clear hp e hl
    go_enter Try.func12, Try.ntmps12
    go_wp2_with fail
    go_ret2
    exact hO.out
  · by_cases h1 : 64 < l.length
    · have e : splitV a l = ([], 4) := by unfold splitV; rw [if_neg h0, if_pos h1]
      rw [e]
      have hO := Lib.hid (Out2.none 4 w)
      obtain ⟨p, c, rfl, hp⟩ := h
      generalize l.length = n at *
      have hnb : ((n : Int) == 0) = false := by simp; omega
      clear hp e h0
      go_enter Try.func12, Try.ntmps12
      go_wp2_with fail
      go_ret2
      exact hO.out
    · by_cases h2 : okI a
      · by_cases h3 : ∀ x ∈ l, okW x
        · obtain ⟨m, rfl, hm⟩ := ofN_of l h3
          rw [ofN_length] at h0 h1
          by_cases h4 : W m = 0
          · have e : splitV a (ofN m) = ([], 2) := by unfold splitV; rw [ofN_length, if_neg h0, if_neg h1, if_neg (by simpa using h2), if_neg (by simpa using h3), toNat_ofN, if_pos h4]
            rw [e]
            have hO := Lib.hid (Out2.none 2 w)
            have c1 := Lib.hid (valid_var a true (by rw [decide_eq_true h2]))
            have c2 := Lib.hid (allin_any v (ofN m) true (by rw [decide_eq_true h3]) w h hl)
            have c3 := Lib.hid (sum_any v m w h (by omega) (fun x hx => by have := hm x hx; omega) 0 h4)
            obtain ⟨p, c, rfl, hp⟩ := h
            rw [ofN_length] at *
            generalize m.length = n at *
            have hnb : ((n : Int) == 0) = false := by simp; omega
            have hnc : decide (64 < (n : Int)) = false := by simp; omega
            clear hp e h0 h3 h4 hm h2
            go_enter Try.func12, Try.ntmps12
            go_wp2_with fail
            refine (c1.out _).mono ?_; rintro e w' ⟨rfl, rfl⟩
            go_wp2_with fail
            refine c2.out.mono ?_; rintro e w' ⟨rfl, rfl⟩
            go_wp2_with fail
            refine c3.out.mono ?_; rintro e w' ⟨rfl, rfl⟩
            go_wp2_with fail
            go_ret2
            exact hO.out
          · rw [splitV_ok a m (by omega) (by omega) h2 hm (by omega)]
            unfold okI at h2
            by_cases h5 : a < 0
            · have := split_neg a.natAbs v m w h (by omega) (by omega) (by omega) (by omega) hm (by omega)
              rw [show (-(a.natAbs : Int)) = a by omega] at this
              exact this
            · have := split_pos a.natAbs v m w h (by omega) (by omega) (by omega) hm (by omega)
              rw [show ((a.natAbs : Int)) = a by omega] at this
              exact this
        · have e : splitV a l = ([], 1) := by unfold splitV; rw [if_neg h0, if_neg h1, if_neg (by simpa using h2), if_pos h3]
          rw [e]
          have hO := Lib.hid (Out2.none 1 w)
          have c1 := Lib.hid (valid_var a true (by rw [decide_eq_true h2]))
          have c2 := Lib.hid (allin_any v l false (by rw [decide_eq_false h3]) w h hl)
          obtain ⟨p, c, rfl, hp⟩ := h
          generalize l.length = n at *
          have hnb : ((n : Int) == 0) = false := by simp; omega
          have hnc : decide (64 < (n : Int)) = false := by simp; omega
          clear hp e h0 h3 h2
          go_enter Try.func12, Try.ntmps12
          go_wp2_with fail
          refine (c1.out _).mono ?_; rintro e w' ⟨rfl, rfl⟩
          go_wp2_with fail
          refine c2.out.mono ?_; rintro e w' ⟨rfl, rfl⟩
          go_wp2_with fail
          go_ret2
          exact hO.out
      · have e : splitV a l = ([], 1) := by unfold splitV; rw [if_neg h0, if_neg h1, if_pos h2]
        rw [e]
        have hO := Lib.hid (Out2.none 1 w)
        have c1 := Lib.hid (valid_var a false (by rw [decide_eq_false h2]))
        obtain ⟨p, c, rfl, hp⟩ := h
        generalize l.length = n at *
        have hnb : ((n : Int) == 0) = false := by simp; omega
        have hnc : decide (64 < (n : Int)) = false := by simp; omega
        clear hp e h0 h2
        go_enter Try.func12, Try.ntmps12
        go_wp2_with fail
        refine (c1.out _).mono ?_; rintro e w' ⟨rfl, rfl⟩
        go_wp2_with fail
        go_ret2
        exact hO.out
end Go.Proofs.Ytnjghcncibogeaa.Spl
