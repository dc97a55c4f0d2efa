/- The reader's expressions, step by step (mathematics). Plain arithmetic of the method of the largest remainder. No program is named here. Words on lists of numbers that name no program: weights, amounts, natural numbers as ints. The deck of numbers from which arguments are made: New, Next. The reader in memory: next, fail, takes, wants. The reader in memory: takes, wants, numbers, names. A list of  -/
import Derived.Test.YtjmipikahaoblaaGreatDoorZ05
import Derived.Lib.Hide
import Derived.Test.YtjmipikahaoblaaGreatDoorZ00
import Derived.Laws.AppendOwn
import Derived.Test.YtjmipikahaoblaaGreatDoorZ03
import Derived.Test.YtjmipikahaoblaaGreatDoorZ01
import Derived.Test.YtjmipikahaoblaaGreatDoorZ04
namespace Go.Proofs.YtjmipikahaoblaaGreatDoor.Syn
open Go.RowKit Go.Lib Go.Proofs.YtjmipikahaoblaaGreatDoor.Bas Go.Proofs.YtjmipikahaoblaaGreatDoor.Cal Go.Proofs.YtjmipikahaoblaaGreatDoor.Lx Go.Proofs.YtjmipikahaoblaaGreatDoor.Sc
set_option linter.unusedVariables false

theorem nameS_ok {L : List Tok} {i : Nat} {l : List (List UInt8)} (h : nameE (tk L i) l = 0) : nameS L (i, 0) l = (i + 1, 0) := by
  unfold nameS; rw [if_neg (by simp), if_pos h]; rfl
theorem nameS_no {L : List Tok} {i : Nat} {l : List (List UInt8)} (h : nameE (tk L i) l ≠ 0) : nameS L (i, 0) l = (i, nameE (tk L i) l) := by
  unfold nameS; rw [if_neg (by simp), if_neg h]
theorem sim_rs {r : Rs} {i j : Nat} (hS : Step (rs i) r) (h : sim r = (j, 0)) : r = rs j := by
  by_cases e : r.e = 0
  · rw [sim_ok e] at h
    have : r.at' = j := congrArg Prod.fst h
    rw [hS.rs e, this]
  · rw [sim_no e] at h
    exact absurd (congrArg Prod.snd h) e
theorem sim_err {r : Rs} {j : Nat} {x : Int} (h : sim r = (j, x)) (hx : x ≠ 0) : r.e ≠ 0 := by
  intro e
  rw [sim_ok e] at h
  exact hx (congrArg Prod.snd h).symm
theorem sim_zero {r : Rs} : (sim r).2 = 0 ↔ r.e = 0 := by
  unfold sim; split
  · rename_i h; exact ⟨fun _ => h, fun _ => rfl⟩
  · exact Iff.rfl
/-- The name at i is none. -/
theorem named_err (L : List Tok) (i : Nat) (h : nameE (tk L i) [] ≠ 0) : sim (namedR L (rs i)).1 = (i, nameE (tk L i) []) := by
  have h1 := (name_sim L i).1
  rw [nameS_no h] at h1
  have he := sim_err h1 h
  rw [← h1]
  refine Step.sim ?_ he
  unfold namedR
  simp only
  split
  · exact (step_go _).trans (step_words L _)
  · split
    · refine (step_go _).trans ((step_bound L _).trans ((step_want L _ 1 wTo).trans ((step_bound L _).trans ?_)))
      split
      · exact step_fail _ 1 (by decide) _
      · exact Step.refl _
    · exact Step.refl _
theorem name_ok {L : List Tok} {i : Nat} (h : nameE (tk L i) [] = 0) : nameR L (rs i) = (rs (i + 1), (tk L i).t) := by
  obtain ⟨h1, h2⟩ := name_sim L i
  rw [nameS_ok h] at h1
  have := sim_rs (step_name L (rs i)) h1
  have h3 := h2 (by rw [this])
  rw [← this, ← h3]
/-- A name by itself. -/
theorem named_bare (L : List Tok) (i : Nat) (h : nameE (tk L i) [] = 0) (h1 : isB L (rs (i + 1)) 1 wIn = false) (h2 : isB L (rs (i + 1)) 1 wFrom = false) : namedR L (rs i) = (rs (i + 1), ⟨⟨3, (tk L i).t, [], 0, 0⟩, .nil⟩) := by
  unfold namedR
  rw [name_ok h]
  simp only
  rw [if_neg (by simp [h1]), if_neg (by simp [h2])]
theorem named_in (L : List Tok) (i : Nat) (h : nameE (tk L i) [] = 0) (h1 : isB L (rs (i + 1)) 1 wIn = true) : namedR L (rs i) = ((wordsR L (rs (i + 2))).1, ⟨⟨4, (tk L i).t, (wordsR L (rs (i + 2))).2, 0, 0⟩, .nil⟩) := by
  unfold namedR
  rw [name_ok h]
  simp only
  rw [if_pos h1]
  rfl
theorem numS_no (L : List Tok) (s : Nat × Int) (x : Int) (h : s.2 ≠ 0) : numS L s x = s := by unfold numS; rw [if_pos h]
theorem named_from (L : List Tok) (i : Nat) (h : nameE (tk L i) [] = 0) (h1 : isB L (rs (i + 1)) 1 wIn = false) (h2 : isB L (rs (i + 1)) 1 wFrom = true) :
    sim (namedR L (rs i)).1 = numS L (wantS L (numS L (i + 2, 0) (-1000000000)) 1 wTo) (tk L (i + 2)).n ∧
    ((namedR L (rs i)).1.e = 0 → (namedR L (rs i)).2 = ⟨⟨5, (tk L i).t, [], (tk L (i + 2)).n, (tk L (i + 4)).n⟩, .nil⟩ ∧ wantS L (numS L (i + 2, 0) (-1000000000)) 1 wTo = (i + 4, 0)) := by
  unfold namedR
  rw [name_ok h]
  simp only
  rw [if_neg (by simp [h1]), if_pos h2]
  show sim (if (boundR L (want L (boundR L (rs (i + 2))).1 1 wTo)).2 < (boundR L (rs (i + 2))).2 then (boundR L (want L (boundR L (rs (i + 2))).1 1 wTo)).1.fail 1 (want L (boundR L (rs (i + 2))).1 1 wTo).at' else (boundR L (want L (boundR L (rs (i + 2))).1 1 wTo)).1) = _ ∧
    ((if (boundR L (want L (boundR L (rs (i + 2))).1 1 wTo)).2 < (boundR L (rs (i + 2))).2 then (boundR L (want L (boundR L (rs (i + 2))).1 1 wTo)).1.fail 1 (want L (boundR L (rs (i + 2))).1 1 wTo).at' else (boundR L (want L (boundR L (rs (i + 2))).1 1 wTo)).1).e = 0 →
      (⟨⟨5, (tk L i).t, [], (boundR L (rs (i + 2))).2, (boundR L (want L (boundR L (rs (i + 2))).1 1 wTo)).2⟩, .nil⟩ : Ex) = _ ∧ _)
  have hA := bound_sim L (i + 2)
  have hSA := step_bound L (rs (i + 2))
  have hSb := step_want L (boundR L (rs (i + 2))).1 1 wTo
  have hSc := step_bound L (want L (boundR L (rs (i + 2))).1 1 wTo)
  have hSd : ∀ (p : Prop) (hp : Decidable p) (r : Rs) (q : Nat), Step r (@ite Rs p hp (r.fail 1 q) r) := fun p _ r q => by
    split
    · exact step_fail _ 1 (by decide) _
    · exact Step.refl _
  have hw := want_simR L (i + 2) _ hSA 1 wTo (by decide)
  rw [hA.1] at hw
  by_cases ha : (boundR L (rs (i + 2))).1.e = 0
  · obtain ⟨hv, hge⟩ := hA.2 ha
    rw [hv]
    by_cases hb : (want L (boundR L (rs (i + 2))).1 1 wTo).e = 0
    · have hB := ((hSA.trans hSb).rs hb)
      -- the index behind the word
      have hsA := sim_ok ha
      rw [hA.1] at hsA
      have hnum : numS L (i + 2, 0) (-1000000000) = (i + 3, 0) := by
        unfold numS at hsA ⊢
        rw [if_neg (by simp)] at hsA ⊢
        split
        · rfl
        · rename_i hne
          rw [if_neg hne] at hsA
          exact absurd (congrArg Prod.snd hsA) hne
      have hb4 : wantS L (numS L (i + 2, 0) (-1000000000)) 1 wTo = (i + 4, 0) := by
        have := sim_ok hb
        rw [hw, hnum] at this
        rw [hnum]
        unfold wantS at this ⊢
        split
        · rfl
        · rename_i hne
          rw [if_neg hne] at this
          have := congrArg Prod.snd this
          simp [failS] at this
      have hat : (want L (boundR L (rs (i + 2))).1 1 wTo).at' = i + 4 := by
        have := sim_ok hb
        rw [hw, hb4] at this
        exact (congrArg Prod.fst this).symm
      rw [hat] at hB ⊢
      rw [hB, hb4]
      have h2 := bound2_sim L (i + 4) (tk L (i + 2)).n hge
      exact ⟨h2.1, fun he => ⟨by rw [h2.2 he], rfl⟩⟩
    · have e1 : (want L (boundR L (rs (i + 2))).1 1 wTo).e ≠ 0 := hb
      have hz : (wantS L (numS L (i + 2, 0) (-1000000000)) 1 wTo).2 ≠ 0 := by rw [← hw]; exact fun e => hb (sim_zero.1 e)
      exact ⟨(Step.sim (hSc.trans (hSd _ _ _ _)) e1).trans (by rw [numS_no L _ _ hz, hw]), fun he => absurd ((hSc.trans (hSd _ _ _ _)).ok he) e1⟩
  · have hz : (numS L (i + 2, 0) (-1000000000)).2 ≠ 0 := by rw [← hA.1]; exact fun e => ha (sim_zero.1 e)
    exact ⟨(Step.sim (hSb.trans (hSc.trans (hSd _ _ _ _))) ha).trans (by rw [wantS_no L _ 1 wTo hz (by decide), numS_no L _ _ hz, hA.1]), fun he => absurd ((hSb.trans (hSc.trans (hSd _ _ _ _))).ok he) ha⟩
/-- What is left of parts that are joined. -/
def restJ (L : List Tok) (w : List UInt8) (op : Int) (one : Rs → Rs × Ex) (r : Rs) (l : List Ex) : Rs × Ex := ((joinF L w one (L.length + 1) r l).1, opE op (joinF L w one (L.length + 1) r l).2)
theorem join_start (L : List Tok) (w : List UInt8) (op : Int) (one : Rs → Rs × Ex) (r : Rs) : joinR L w op one r = restJ L w op one (one r).1 [(one r).2] := rfl
theorem restJ_stop (L : List Tok) (w : List UInt8) (op : Int) (one : Rs → Rs × Ex) (r : Rs) (l : List Ex) (h : ¬ (r.e = 0 ∧ isB L r 1 w = true)) : restJ L w op one r l = (r, opE op l) := by
  unfold restJ; rw [joinF, if_neg h]
theorem restJ_step (L : List Tok) (w : List UInt8) (op : Int) (one : Rs → Rs × Ex) (hm : Mono one) (r : Rs) (l : List Ex) (h0 : r.e = 0) (h : isB L r 1 w = true) : restJ L w op one r l = restJ L w op one (one r.go).1 (l ++ [(one r.go).2]) := by
  have hlt := is_lt h
  have := hm r.go
  have h2 : r.go.at' = r.at' + 1 := rfl
  unfold restJ
  rw [joinF, if_pos ⟨h0, h⟩, joinF_fuel L w one hm L.length (L.length + 1) _ _ (by omega) (by omega)]
theorem step_restJ (L : List Tok) (w : List UInt8) (op : Int) (one : Rs → Rs × Ex) (h : Steps one) (r : Rs) (l : List Ex) : Step r (restJ L w op one r l).1 := step_joinF L w one h _ _ _
theorem opE_two (op : Int) (a b : Ex) (l : List Ex) : opE op (a :: b :: l) = ⟨⟨op, [], [], 0, 0⟩, Fo.ofL (a :: b :: l)⟩ := by
  unfold opE; rw [if_neg (by simp)]
theorem opE_len (op : Int) (l : List Ex) (h : 2 ≤ l.length) : opE op l = ⟨⟨op, [], [], 0, 0⟩, Fo.ofL l⟩ := by
  unfold opE; rw [if_neg (by omega)]
theorem neg_at (L : List Tok) : Mono (negR L (eitherR L)) := negR_at L _ (either_at L)
theorem both_at (L : List Tok) : Mono (bothR L (eitherR L)) := joinR_at L wAnd 7 _ (neg_at L)
end Go.Proofs.YtjmipikahaoblaaGreatDoor.Syn
namespace Go.Proofs.YtjmipikahaoblaaGreatDoor.Spl
set_option linter.unusedVariables false

/-- f 0 + .. + f (n - 1). -/
def S (f : Nat → Nat) : Nat → Nat
  | 0 => 0
  | n + 1 => S f n + f n
theorem S_congr {f g : Nat → Nat} {n : Nat} (h : ∀ i, i < n → f i = g i) : S f n = S g n := by
  induction n with
  | zero => rfl
  | succ n ih => simp only [S]; rw [ih fun i hi => h i (by omega), h n (by omega)]
theorem S_mono {f g : Nat → Nat} {n : Nat} (h : ∀ i, i < n → f i ≤ g i) : S f n ≤ S g n := by
  induction n with
  | zero => exact Nat.le_refl _
  | succ n ih => simp only [S]; have := ih fun i hi => h i (by omega); have := h n (by omega); omega
theorem S_add (f g : Nat → Nat) (n : Nat) : S (fun i => f i + g i) n = S f n + S g n := by
  induction n with
  | zero => rfl
  | succ n ih => simp only [S]; omega
theorem S_mul (f : Nat → Nat) (c n : Nat) : S (fun i => f i * c) n = S f n * c := by
  induction n with
  | zero => simp [S]
  | succ n ih => simp only [S]; rw [ih, Nat.add_mul]
theorem S_const (c n : Nat) : S (fun _ => c) n = n * c := by
  induction n with
  | zero => simp [S]
  | succ n ih => simp only [S]; rw [ih, Nat.add_mul]; omega
theorem S_le_const {f : Nat → Nat} {c n : Nat} (h : ∀ i, i < n → f i ≤ c) : S f n ≤ n * c := by
  rw [← S_const c n]; exact S_mono h
theorem S_one_le {f : Nat → Nat} {n i : Nat} (h : i < n) : f i ≤ S f n := by
  induction n with
  | zero => omega
  | succ n ih =>
    simp only [S]
    rcases Nat.lt_or_ge i n with h1 | h1
    · have := ih h1; omega
    · obtain rfl : i = n := by omega
      omega
theorem S_le_succ (f : Nat → Nat) (n : Nat) : S f n ≤ S f (n + 1) := by simp only [S]; omega
theorem S_le_of_le {f : Nat → Nat} {m n : Nat} (h : m ≤ n) : S f m ≤ S f n := by
  induction h with
  | refl => exact Nat.le_refl _
  | step _ ih => exact Nat.le_trans ih (S_le_succ f _)
theorem S_countP (p : Nat → Bool) (n : Nat) : S (fun i => if p i then 1 else 0) n = (List.range n).countP p := by
  induction n with
  | zero => rfl
  | succ n ih =>
    rw [List.range_succ, List.countP_append, ← ih]
    simp [S, List.countP_cons]

/-! ### The order of the remainders -/
/-- j is served before i. -/
def bet (r : Nat → Nat) (j i : Nat) : Bool := decide (r i < r j) || (decide (r j = r i) && decide (j < i))
theorem bet_iff (r : Nat → Nat) (j i : Nat) : bet r j i = true ↔ (r i < r j ∨ (r j = r i ∧ j < i)) := by simp [bet]
/-- The place of i in the order. -/
def rk (r : Nat → Nat) (n i : Nat) : Nat := S (fun j => if bet r j i then 1 else 0) n

theorem rk_sorted (r : Nat → Nat) (n : Nat) (o : List Nat) (hp : o.Perm (List.range n)) (hs : o.Pairwise (fun x y => bet r x y = true)) (k : Nat) (hk : k < o.length) :
    rk r n o[k] = k := by
  unfold rk
  rw [S_countP, ← hp.countP_eq]
  have e : o = o.take k ++ o[k] :: o.drop (k + 1) := by rw [List.getElem_cons_drop, List.take_append_drop]
  generalize hx : o[k] = x at *
  have hs' := hs
  rw [e, List.pairwise_append] at hs'
  obtain ⟨h1, h2, h3⟩ := hs'
  rw [List.pairwise_cons] at h2
  rw [e, List.countP_append, List.countP_cons]
  have a1 : (o.take k).countP (fun j => bet r j x) = k := by
    rw [List.countP_eq_length.2 fun a ha => h3 a ha x (by simp)]
    rw [List.length_take]; omega
  have a2 : (o.drop (k + 1)).countP (fun j => bet r j x) = 0 := by
    rw [List.countP_eq_zero]
    intro a ha hb
    have h4 := h2.1 a ha
    rw [bet_iff] at h4 hb
    omega
  have a3 : bet r x x = false := by
    rw [Bool.eq_false_iff]; intro h; rw [bet_iff] at h; omega
  rw [a1, a2, a3]; simp

theorem rk_sorted' (r : Nat → Nat) (n : Nat) (o : List Nat) (hp : o.Perm (List.range n)) (hs : o.Pairwise (fun x y => bet r x y = true)) : o.map (rk r n) = List.range n := by
  have hl : o.length = n := by rw [hp.length_eq]; simp
  apply List.ext_getElem
  · simp [hl]
  · intro k h1 h2
    rw [List.getElem_map, List.getElem_range, rk_sorted r n o hp hs k (by simpa using h1)]

/-- There is such an order. -/
theorem has_order (r : Nat → Nat) (n : Nat) : ∃ o : List Nat, o.Perm (List.range n) ∧ o.Pairwise (fun x y => bet r x y = true) := by
  refine ⟨(List.range n).mergeSort (fun x y => !bet r y x), List.mergeSort_perm _ _, ?_⟩
  have h1 := List.pairwise_mergeSort (le := fun x y => !bet r y x)
    (fun a b c h1 h2 => by
      simp only [Bool.not_eq_true', Bool.eq_false_iff] at *
      intro h
      have g1 : ¬ (r a < r b ∨ (r b = r a ∧ b < a)) := fun x => h1 ((bet_iff r b a).2 x)
      have g2 : ¬ (r b < r c ∨ (r c = r b ∧ c < b)) := fun x => h2 ((bet_iff r c b).2 x)
      have g3 := (bet_iff r c a).1 h
      omega)
    (fun a b => by
      cases h : bet r b a with
      | false => simp
      | true =>
        cases h' : bet r a b with
        | false => simp
        | true => rw [bet_iff] at *; omega) (List.range n)
  have h2 : ((List.range n).mergeSort (fun x y => !bet r y x)).Nodup := (List.mergeSort_perm _ _).nodup_iff.2 List.nodup_range
  refine (List.Pairwise.and h1 h2).imp fun {a b} ⟨h3, h4⟩ => ?_
  simp only [Bool.not_eq_true', Bool.eq_false_iff, ne_eq] at h3
  rw [bet_iff] at *
  omega

theorem rk_perm (r : Nat → Nat) (n : Nat) : ((List.range n).map (rk r n)).Perm (List.range n) := by
  obtain ⟨o, hp, hs⟩ := has_order r n
  have := rk_sorted' r n o hp hs
  have h2 := hp.map (rk r n)
  rw [this] at h2
  exact h2.symm
theorem rk_lt (r : Nat → Nat) (n i : Nat) (h : i < n) : rk r n i < n := by
  have : rk r n i ∈ List.range n := (rk_perm r n).subset (List.mem_map.2 ⟨i, by simpa using h, rfl⟩)
  simpa using this
theorem rk_has (r : Nat → Nat) (n t : Nat) (h : t < n) : ∃ i, i < n ∧ rk r n i = t := by
  have : t ∈ (List.range n).map (rk r n) := (rk_perm r n).symm.subset (by simpa using h)
  obtain ⟨i, hi, e⟩ := List.mem_map.1 this
  exact ⟨i, by simpa using hi, e⟩
theorem rk_bet {r : Nat → Nat} {n i j : Nat} (hj : j < n) (h : bet r j i = true) : rk r n j < rk r n i := by
  unfold rk
  have : ∀ m, m ≤ n → S (fun k => if bet r k j then 1 else 0) m + (if j < m then 1 else 0) ≤ S (fun k => if bet r k i then 1 else 0) m := by
    intro m
    induction m with
    | zero => intro _; simp [S]
    | succ m ih =>
      intro hm
      have := ih (by omega)
      simp only [S]
      rcases Nat.lt_trichotomy j m with h1 | h1 | h1
      · rw [if_pos h1] at this; rw [if_pos (show j < m + 1 by omega)]
        by_cases hb : bet r m j = true
        · have : bet r m i = true := by rw [bet_iff] at *; omega
          rw [if_pos hb, if_pos this]; omega
        · rw [if_neg hb]; omega
      · subst h1
        rw [if_neg (show ¬ j < j by omega)] at this; rw [if_pos (show j < j + 1 by omega), if_pos h]
        have : ¬ bet r j j = true := by rw [bet_iff]; omega
        rw [if_neg this]; omega
      · rw [if_neg (show ¬ j < m by omega)] at this; rw [if_neg (show ¬ j < m + 1 by omega)]
        by_cases hb : bet r m j = true
        · have : bet r m i = true := by rw [bet_iff] at *; omega
          rw [if_pos hb, if_pos this]; omega
        · rw [if_neg hb]; omega
  have := this n (Nat.le_refl _)
  rw [if_pos hj] at this
  omega
theorem bet_tot (r : Nat → Nat) (i j : Nat) (h : i ≠ j) : bet r i j = true ∨ bet r j i = true := by
  rw [bet_iff, bet_iff]; omega
theorem rk_inj {r : Nat → Nat} {n i j : Nat} (hi : i < n) (hj : j < n) (h : rk r n i = rk r n j) : i = j := by
  rcases Decidable.em (i = j) with h1 | h1
  · exact h1
  · rcases bet_tot r i j h1 with h2 | h2
    · have := rk_bet hi h2; omega
    · have := rk_bet hj h2; omega
theorem bet_of_rk {r : Nat → Nat} {n i j : Nat} (hi : i < n) (hj : j < n) (h : rk r n j < rk r n i) : bet r j i = true := by
  rcases bet_tot r i j (fun e => by subst e; omega) with h2 | h2
  · have := rk_bet hi h2; omega
  · exact h2
theorem count_below (t n : Nat) (h : t ≤ n) : (List.range n).countP (fun i => decide (i < t)) = t := by
  rw [← S_countP]
  have : ∀ m, S (fun i => if decide (i < t) = true then 1 else 0) m = min m t := by
    intro m
    induction m with
    | zero => simp [S]
    | succ m ih => simp only [S]; rw [ih]; by_cases hh : m < t <;> simp [hh] <;> omega
  rw [this]; omega
theorem rk_count (r : Nat → Nat) (t n : Nat) (h : t ≤ n) : S (fun i => if rk r n i < t then 1 else 0) n = t := by
  have e : (fun i => if rk r n i < t then 1 else 0) = fun i => if (fun i => decide (rk r n i < t)) i then 1 else 0 := by funext i; simp
  rw [e, S_countP]
  have := (rk_perm r n).countP_eq (fun i => decide (i < t))
  rw [List.countP_map, count_below t n h] at this
  exact this

/-! ### The parts -/
def wt (l : List Nat) (i : Nat) : Nat := l.getD i 0
/-- The sum of the weights. -/
def W (l : List Nat) : Nat := S (wt l) l.length
def qu (a : Nat) (l : List Nat) (i : Nat) : Nat := a * wt l i / W l
def re (a : Nat) (l : List Nat) (i : Nat) : Nat := a * wt l i % W l
def lef (a : Nat) (l : List Nat) : Nat := a - S (qu a l) l.length
/-- Part i when t units have been given out. -/
def pt (a : Nat) (l : List Nat) (t i : Nat) : Nat := qu a l i + if rk (re a l) l.length i < t then 1 else 0
def part (a : Nat) (l : List Nat) (i : Nat) : Nat := pt a l (lef a l) i
def parts (a : Nat) (l : List Nat) : List Nat := (List.range l.length).map (part a l)

theorem re_lt (a : Nat) (l : List Nat) (i : Nat) (h : 0 < W l) : re a l i < W l := Nat.mod_lt _ h
theorem qr (a : Nat) (l : List Nat) (i : Nat) : qu a l i * W l + re a l i = a * wt l i := Nat.div_add_mod' _ _
theorem sum_qr (a : Nat) (l : List Nat) : S (qu a l) l.length * W l + S (re a l) l.length = a * W l := by
  have h : S (fun i => qu a l i * W l + re a l i) l.length = S (fun i => wt l i * a) l.length := S_congr fun i _ => by rw [qr, Nat.mul_comm]
  rw [S_add, S_mul, S_mul] at h
  rw [h, Nat.mul_comm]; rfl
theorem sum_q (a : Nat) (l : List Nat) (h : 0 < W l) : S (qu a l) l.length ≤ a := by
  have := sum_qr a l
  exact Nat.le_of_mul_le_mul_right (by omega : S (qu a l) l.length * W l ≤ a * W l) h
theorem lef_mul (a : Nat) (l : List Nat) (h : 0 < W l) : lef a l * W l = S (re a l) l.length := by
  have h1 := sum_qr a l
  have h2 := sum_q a l h
  unfold lef
  rw [Nat.sub_mul]; omega
/-- The number of the remainders that are not 0. -/
def pos (a : Nat) (l : List Nat) : Nat := S (fun i => if 0 < re a l i then 1 else 0) l.length
theorem lef_pos (a : Nat) (l : List Nat) (h : 0 < W l) : lef a l = 0 ∨ lef a l < pos a l := by
  have h1 := lef_mul a l h
  have h2 : S (re a l) l.length + pos a l ≤ pos a l * W l := by
    unfold pos
    rw [← S_add, ← S_mul]
    refine S_mono fun i _ => ?_
    have := re_lt a l i h
    by_cases hh : 0 < re a l i
    · rw [if_pos hh]; omega
    · rw [if_neg hh]; omega
  rcases Nat.eq_zero_or_pos (lef a l) with h3 | h3
  · exact Or.inl h3
  · right
    have h4 : 0 < lef a l * W l := Nat.mul_pos h3 h
    have h5 : 0 < pos a l := by
      rcases Nat.eq_zero_or_pos (pos a l) with h6 | h6
      · rw [h6] at h2; omega
      · exact h6
    exact Nat.lt_of_mul_lt_mul_right (by omega : lef a l * W l < pos a l * W l)
theorem pos_le (a : Nat) (l : List Nat) : pos a l ≤ l.length := by
  have : pos a l ≤ l.length * 1 := S_le_const fun i _ => by split <;> omega
  omega
theorem lef_le (a : Nat) (l : List Nat) (h : 0 < W l) : lef a l ≤ l.length := by
  have := lef_pos a l h; have := pos_le a l; omega
theorem lef_lt (a : Nat) (l : List Nat) (h : 0 < W l) (hl : 0 < l.length) : lef a l < l.length := by
  have := lef_pos a l h; have := pos_le a l; omega
/-- Who is served has a remainder. -/
theorem served (a : Nat) (l : List Nat) (h : 0 < W l) (i : Nat) (hi : rk (re a l) l.length i < lef a l) : 0 < re a l i := by
  rcases Nat.eq_zero_or_pos (re a l i) with h0 | h0
  · have : pos a l ≤ rk (re a l) l.length i := by
      refine S_mono fun j _ => ?_
      by_cases hj : 0 < re a l j
      · rw [if_pos hj, if_pos (by rw [bet_iff]; omega)]; exact Nat.le_refl _
      · rw [if_neg hj]; omega
    have := lef_pos a l h
    omega
  · exact h0
theorem parts_sum (a : Nat) (l : List Nat) (h : 0 < W l) : S (part a l) l.length = a := by
  have h1 := sum_q a l h
  have h2 := rk_count (re a l) (lef a l) l.length (lef_le a l h)
  have h3 : S (part a l) l.length = S (qu a l) l.length + S (fun i => if rk (re a l) l.length i < lef a l then 1 else 0) l.length := S_add _ _ _
  rw [h3, h2]; unfold lef; omega
theorem part_zero (a : Nat) (l : List Nat) (h : 0 < W l) (i : Nat) (hi : wt l i = 0) : part a l i = 0 := by
  have h1 : re a l i = 0 := by unfold re; rw [hi]; simp
  have h2 : qu a l i = 0 := by unfold qu; rw [hi]; simp
  unfold part pt
  rw [h2, if_neg]
  intro h3
  have := served a l h i h3
  omega
theorem part_two (a : Nat) (l : List Nat) (h : 0 < W l) (i : Nat) : part a l i * W l < a * wt l i + W l ∧ a * wt l i < part a l i * W l + W l := by
  have h1 := qr a l i
  have h2 := re_lt a l i h
  unfold part pt
  by_cases hh : rk (re a l) l.length i < lef a l
  · have := served a l h i hh
    rw [if_pos hh, Nat.add_mul]; omega
  · rw [if_neg hh, Nat.add_zero]; omega
theorem part_le (a : Nat) (l : List Nat) (h : 0 < W l) (i : Nat) : part a l i ≤ qu a l i + 1 := by
  unfold part pt; split <;> omega
theorem qu_le (a : Nat) (l : List Nat) (i : Nat) (hi : i < l.length) : qu a l i ≤ a := by
  unfold qu
  have : wt l i ≤ W l := S_one_le hi
  rcases Nat.eq_zero_or_pos (W l) with h | h
  · rw [h, Nat.div_zero]; omega
  · exact Nat.div_le_of_le_mul (by rw [Nat.mul_comm]; exact Nat.mul_le_mul_right _ this)
theorem part_le' (a : Nat) (l : List Nat) (h : 0 < W l) (i : Nat) (hi : i < l.length) : part a l i ≤ a := by
  have := parts_sum a l h
  have h1 : part a l i ≤ S (part a l) l.length := S_one_le hi
  omega
/-- A part of what is less than the sum is at most the weight. -/
theorem part_cap (a : Nat) (l : List Nat) (h : a < W l) (i : Nat) : part a l i ≤ wt l i := by
  have hW : 0 < W l := by omega
  rcases Nat.eq_zero_or_pos (wt l i) with h0 | h0
  · rw [part_zero a l hW i h0]; omega
  · have := part_le a l hW i
    have : qu a l i < wt l i := by
      unfold qu
      refine Nat.div_lt_of_lt_mul ?_
      exact Nat.mul_lt_mul_of_pos_right h h0
    omega

/-! ### Scaled weights, equal weights -/
theorem wt_map (l : List Nat) (c i : Nat) : wt (l.map (· * c)) i = wt l i * c := by
  unfold wt
  rw [List.getD_eq_getElem?_getD, List.getD_eq_getElem?_getD, List.getElem?_map]
  cases l[i]? <;> simp
theorem W_map (l : List Nat) (c : Nat) : W (l.map (· * c)) = W l * c := by
  unfold W
  rw [List.length_map, ← S_mul]
  exact S_congr fun i _ => wt_map l c i
theorem qu_map (a : Nat) (l : List Nat) (c i : Nat) (h : 0 < c) : qu a (l.map (· * c)) i = qu a l i := by
  unfold qu
  rw [wt_map, W_map, ← Nat.mul_assoc, Nat.mul_div_mul_right _ _ h]
theorem re_map (a : Nat) (l : List Nat) (c i : Nat) : re a (l.map (· * c)) i = re a l i * c := by
  unfold re
  rw [wt_map, W_map, ← Nat.mul_assoc, Nat.mul_mod_mul_right]
theorem bet_map (r : Nat → Nat) (c : Nat) (h : 0 < c) (j i : Nat) : bet (fun k => r k * c) j i = bet r j i := by
  rw [Bool.eq_iff_iff, bet_iff, bet_iff]
  have h1 : r i * c < r j * c ↔ r i < r j := Nat.mul_lt_mul_right h
  have h2 : r j * c = r i * c ↔ r j = r i := ⟨fun e => Nat.eq_of_mul_eq_mul_right h e, fun e => by rw [e]⟩
  rw [h1, h2]
theorem parts_map (a : Nat) (l : List Nat) (c : Nat) (h : 0 < c) : parts a (l.map (· * c)) = parts a l := by
  have e1 : qu a (l.map (· * c)) = qu a l := funext fun i => qu_map a l c i h
  have e2 : re a (l.map (· * c)) = fun k => re a l k * c := funext fun i => re_map a l c i
  have e3 : ∀ n i, rk (fun k => re a l k * c) n i = rk (re a l) n i := fun n i => by
    unfold rk; refine S_congr fun j _ => ?_; rw [bet_map _ c h]
  unfold parts part pt lef
  rw [e1, e2, List.length_map]
  simp only [e3]
theorem wt_rep (n x i : Nat) (h : i < n) : wt (List.replicate n x) i = x := by
  unfold wt
  rw [List.getD_eq_getElem?_getD, List.getElem?_replicate, if_pos h]; rfl
theorem rk_even (a n x i : Nat) (h : i < n) : rk (re a (List.replicate n x)) n i = i := by
  unfold rk
  have : S (fun j => if bet (re a (List.replicate n x)) j i = true then 1 else 0) n = S (fun j => if (fun j => decide (j < i)) j = true then 1 else 0) n := by
    refine S_congr fun j hj => ?_
    have e1 : re a (List.replicate n x) j = re a (List.replicate n x) i := by unfold re; rw [wt_rep n x j hj, wt_rep n x i h]
    have e2 : bet (re a (List.replicate n x)) j i = decide (j < i) := by
      rw [Bool.eq_iff_iff, bet_iff, e1]; simp
    rw [e2]
  rw [this, S_countP, count_below i n (by omega)]
theorem part_even (a n x i : Nat) (h : i < n) : part a (List.replicate n x) i = qu a (List.replicate n x) 0 + if i < lef a (List.replicate n x) then 1 else 0 := by
  unfold part pt
  rw [List.length_replicate, rk_even a n x i h]
  have : qu a (List.replicate n x) i = qu a (List.replicate n x) 0 := by unfold qu; rw [wt_rep n x i h, wt_rep n x 0 (by omega)]
  rw [this]
end Go.Proofs.YtjmipikahaoblaaGreatDoor.Spl
namespace Go.Proofs.YtjmipikahaoblaaGreatDoor.Spl
open Go.RowKit Go.Lib Go.Proofs.YtjmipikahaoblaaGreatDoor.Bas
set_option linter.unusedVariables false

def okI (a : Int) : Prop := -17592186044416 ≤ a ∧ a ≤ 17592186044416
instance (a : Int) : Decidable (okI a) := by unfold okI; infer_instance
/-- May be a weight. -/
def okW (a : Int) : Prop := 0 ≤ a ∧ a ≤ 17592186044416
instance (a : Int) : Decidable (okW a) := by unfold okW; infer_instance
def cl (a : Int) : Int := if 17592186044416 < a then 17592186044416 else if a < -17592186044416 then -17592186044416 else a
theorem cl_ok (a : Int) : okI (cl a) := by unfold cl okI; split <;> (try split) <;> omega

/-- The rest of a list from k on. -/
theorem all_drop_step {p : Int → Prop} {l : List Int} {k : Nat} (hk : k < l.length) (h : ∀ y ∈ l.take k, p y) (h2 : p (l.getD k 0)) : ∀ y ∈ l.take (k + 1), p y := by
  intro y hy
  rw [List.take_succ_eq_append_getElem hk] at hy
  rcases List.mem_append.1 hy with h1 | h1
  · exact h y h1
  · rw [List.mem_singleton.1 h1]; rw [List.getD_eq_getElem?_getD, List.getElem?_eq_getElem hk] at h2; exact h2
theorem getD_mem {l : List Int} {k : Nat} (hk : k < l.length) : l.getD k 0 ∈ l := by
  rw [List.getD_eq_getElem?_getD, List.getElem?_eq_getElem hk]; exact List.getElem_mem _

/-- The sum of the first k. -/
theorem S_wt_lt (l : List Nat) (k : Nat) (hk : k < l.length) (B : Nat) (h : ∀ x ∈ l, x ≤ B) : wt l k ≤ B := by
  unfold wt; rw [List.getD_eq_getElem?_getD, List.getElem?_eq_getElem hk]; exact h _ (List.getElem_mem _)
theorem S_wt_le (l : List Nat) (k : Nat) (hk : k ≤ l.length) (B : Nat) (h : ∀ x ∈ l, x ≤ B) : S (wt l) k ≤ k * B :=
  S_le_const fun i hi => S_wt_lt l i (by omega) B h
/-- A list of ints that are not negative, as natural numbers. -/
def ofN (l : List Nat) : List Int := l.map fun x : Nat => (x : Int)
theorem ofN_length (l : List Nat) : (ofN l).length = l.length := by simp [ofN]
theorem ofN_getD (l : List Nat) (k : Nat) : (ofN l).getD k 0 = ((wt l k : Nat) : Int) := by
  unfold ofN wt
  rw [List.getD_eq_getElem?_getD, List.getD_eq_getElem?_getD, List.getElem?_map]
  cases l[k]? <;> simp
theorem ofN_of (l : List Int) (h : ∀ x ∈ l, okW x) : ∃ m : List Nat, l = ofN m ∧ ∀ x ∈ m, x ≤ 17592186044416 := by
  induction l with
  | nil => exact ⟨[], rfl, by simp⟩
  | cons x r ih =>
    obtain ⟨m, rfl, hm⟩ := ih fun y hy => h y (by simp [hy])
    have hx := h x (by simp)
    unfold okW at hx
    refine ⟨x.toNat :: m, by simp [ofN]; omega, fun y hy => ?_⟩
    rcases List.mem_cons.1 hy with rfl | hy
    · omega
    · exact hm y hy

end Go.Proofs.YtjmipikahaoblaaGreatDoor.Spl
namespace Go.Proofs.YtjmipikahaoblaaGreatDoor.Dk
open Go.RowKit Go.Lib Go.Proofs.YtjmipikahaoblaaGreatDoor.Bas Go.Proofs.YtjmipikahaoblaaGreatDoor.Spl
set_option linter.unusedVariables false

/-- Nothing of before has changed but block d. -/
structure Kept (d : Nat) (w w' : World) : Prop where
  os : w'.os = w.os
  tape : w'.tape = w.tape
  output : w'.output = w.output
  size : w.heap.size ≤ w'.heap.size
  block : ∀ k, k < w.heap.size → k ≠ d → w'.heap[k]? = w.heap[k]?
theorem Kept.refl (d : Nat) (w : World) : Kept d w w := ⟨rfl, rfl, rfl, Nat.le_refl _, fun _ _ _ => rfl⟩
theorem Kept.trans {d : Nat} {a b c : World} (h : Kept d a b) (k : Kept d b c) : Kept d a c :=
  ⟨k.os.trans h.os, k.tape.trans h.tape, k.output.trans h.output, Nat.le_trans h.size k.size, fun i hi hd => (k.block i (Nat.lt_of_lt_of_le hi h.size) hd).trans (h.block i hi hd)⟩
theorem Kept.drewN {d : Nat} {a w : World} (h : Kept d a w) (n : Nat) : Kept d a (w.drewN n) := ⟨h.os, h.tape, h.output, h.size, h.block⟩
theorem Kept.set {d : Nat} {a w : World} (h : Kept d a w) (o : Nat) (u : Value) : Kept d a (w.setCell ⟨d, o, none⟩ u) :=
  h.trans ⟨rfl, rfl, rfl, by simp [World.setCell], fun k _ hk => Below.heap_setCell _ _ _ _ hk⟩
theorem Kept.below {d B : Nat} {w w' : World} (h : Kept d w w') (hB : B ≤ d) (hs : B ≤ w.heap.size) : Below B w w' :=
  ⟨h.os, h.tape, h.output, h.size, fun k hk => h.block k (by omega) (by omega)⟩
theorem Kept.of_below {d : Nat} {w w' : World} (h : Below w.heap.size w w') : Kept d w w' := ⟨h.os, h.tape, h.output, h.size, fun k hk _ => h.block k hk⟩
theorem Kept.row {t : TypeId} {kd : IntKind} {d B : Nat} {w w' : World} {v : Value} {L : List Int} (h : Row t kd B w v L) (k : Kept d w w') (hd : v.ownBlock ≠ some d) : Row t kd B w' v L := by
  have hlt := World.ownsRow.lt h
  obtain ⟨h1, h2⟩ := h
  refine ⟨h1, ?_⟩
  rcases h2 with h2 | ⟨g, cap, cur, hv, hg, hh, r⟩
  · exact Or.inl h2
  · refine Or.inr ⟨g, cap, cur, hv, hg, ?_, r⟩
    subst hv
    rw [k.block g (hlt g rfl).2 (fun e => hd (by rw [← e]; rfl))]; exact hh

/-- A deck at block d over the slice v, which lies below B and reads as l. -/
structure Deck (B : Nat) (w : World) (d : Nat) (v : Value) (l : List Int) : Prop where
  ge : B ≤ d
  lt : d < w.heap.size
  c0 : w.cell? ⟨d, 0, none⟩ = some v
  c1 : ∃ k : Nat, k ≤ l.length ∧ w.cell? ⟨d, 1, none⟩ = some (.int .i64 k)
  fz : w.frozen? ⟨d, 1, none⟩ = false
  ints : IntsAt w v l
  blk : 0 < l.length → ∀ b, v.ownBlock = some b → b < B
  len : l.length ≤ 9223372036854775807
  wf : ∀ x ∈ l, -9223372036854775808 ≤ x ∧ x ≤ 9223372036854775807

theorem Deck.below {B : Nat} {w w' : World} {d : Nat} {v : Value} {l : List Int} (h : Deck B w d v l) (hb : Below w.heap.size w w') : Deck B w' d v l := by
  obtain ⟨k, hk, hc⟩ := h.c1
  exact ⟨h.ge, Nat.lt_of_lt_of_le h.lt hb.size, by rw [hb.cell (p := ⟨d, 0, none⟩) h.lt]; exact h.c0, ⟨k, hk, by rw [hb.cell (p := ⟨d, 1, none⟩) h.lt]; exact hc⟩, by rw [hb.frozen (p := ⟨d, 1, none⟩) h.lt]; exact h.fz, h.ints.below hb, h.blk, h.len, h.wf⟩
theorem Deck.drewN {B : Nat} {w : World} {d : Nat} {v : Value} {l : List Int} (h : Deck B w d v l) (n : Nat) : Deck B (w.drewN n) d v l := ⟨h.ge, h.lt, h.c0, h.c1, h.fz, h.ints, h.blk, h.len, h.wf⟩
theorem ints_set {w : World} {v : Value} {l : List Int} (h : IntsAt w v l) {B d o : Nat} (hb : 0 < l.length → ∀ b, v.ownBlock = some b → b < B) (hd : B ≤ d) (u : Value) : IntsAt (w.setCell ⟨d, o, none⟩ u) v l := by
  obtain ⟨p, c, rfl, hp⟩ := h
  refine ⟨p, c, rfl, fun h0 => ?_⟩
  obtain ⟨b, off, rfl, hc⟩ := hp h0
  have := hb h0 b rfl
  exact ⟨b, off, rfl, fun j hj => by rw [World.cell?_setCell_other _ _ _ _ (by intro e; simp only [Addr.mk.injEq] at e; omega)]; exact hc j hj⟩
theorem Deck.set {B : Nat} {w : World} {d : Nat} {v : Value} {l : List Int} (h : Deck B w d v l) (k : Nat) (hk : k ≤ l.length) : Deck B (w.setCell ⟨d, 1, none⟩ (.int .i64 k)) d v l := by
  obtain ⟨k0, hk0, hc⟩ := h.c1
  refine ⟨h.ge, by simpa using h.lt, ?_, ⟨k, hk, ?_⟩, ?_, ints_set h.ints h.blk h.ge _, h.blk, h.len, h.wf⟩
  · rw [World.cell?_setCell_other _ _ _ _ (by simp)]; exact h.c0
  · exact World.cell?_setCell_same _ _ _ hc
  · rw [World.frozen?_setCell]; exact h.fz

def New (v : Value) (l : List Int) (w : World) (e : Ending) (w' : World) : Prop := ∃ d, e = .returned (.pointer (some ⟨d, 0, none⟩)) ∧ Deck w.heap.size w' d v l ∧ Below w.heap.size w w'
set_option maxHeartbeats 400000 in
theorem new_any (v : Value) (l : List Int) (w : World) (h : IntsAt w v l) (hl : l.length ≤ 9223372036854775807) (hw : ∀ x ∈ l, -9223372036854775808 ≤ x ∧ x ≤ 9223372036854775807) :
    Calls Tryz.prog 14 #[v] w (New v l w) := by
  have hI := Lib.hid h
  have hb : 0 < l.length → ∀ b, v.ownBlock = some b → b < w.heap.size := fun h0 b e => by
    obtain ⟨p, c, rfl, hp⟩ := h
    obtain ⟨b', off, rfl, hc⟩ := hp h0
    cases e
    exact World.block_lt_of_cell? _ _ (hc 0 h0)
  have hb' := Lib.hid hb
  have hw' := Lib.hid hw
  obtain ⟨p, c, rfl, hp⟩ := h
  clear hp hb hw
  have hfin : New (.slice p l.length c) l w (.returned (.pointer (some ⟨w.heap.size, 0, none⟩))) (w.alloc (.cells #[.slice p l.length c, .int .i64 0] 61)) := by
    refine ⟨w.heap.size, rfl, ?_, (Below.refl _ _).alloc (Nat.le_refl _) _⟩
    have hba : Below w.heap.size w (w.alloc (.cells #[.slice p l.length c, .int .i64 0] 61)) := (Below.refl _ _).alloc (Nat.le_refl _) _
    exact ⟨Nat.le_refl _, by simp, by simp, ⟨0, Nat.zero_le _, by simp⟩, by simp, hI.out.below hba, hb'.out, hl, hw'.out⟩
  have hfin' := Lib.hid hfin
  clear hfin
  go_enter Tryz.func14, Tryz.ntmps14
  go_wp2
  go_ret
  exact hfin'.out

/-- A number below n; the deck has gone on. -/
def NextOut (n B d : Nat) (v : Value) (l : List Int) (w : World) (e : Ending) (w' : World) : Prop := ∃ x : Nat, x < n ∧ e = .returned (.int .i64 x) ∧ Deck B w' d v l ∧ Kept d w w'
theorem wrap_i (x : Int) (h1 : -9223372036854775808 ≤ x) (h2 : x ≤ 9223372036854775807) : IntKind.i64.wrap x = x := Go.IntWalk.i64_in _ ⟨h1, h2⟩
theorem next_val (x n : Int) (h : 0 < n) : ∃ y : Nat, (x.tmod n + n) % n = y ∧ (y : Int) < n := by
  have h3 := Int.emod_nonneg (x.tmod n + n) (show n ≠ 0 by omega)
  have h4 := Int.emod_lt_of_pos (x.tmod n + n) h
  exact ⟨((x.tmod n + n) % n).toNat, by omega, by omega⟩

set_option maxHeartbeats 1000000 in
theorem next_any (B d : Nat) (v : Value) (l : List Int) (w : World) (n : Nat) (hn : 0 < n) (hn2 : n ≤ 35184372088832) (h : Deck B w d v l) :
    Calls Tryz.prog 36 #[.pointer (some ⟨d, 0, none⟩), .int .i64 n] w (NextOut n B d v l w) := by
  have hD := Lib.hid h
  obtain ⟨k, hk, c1⟩ := h.c1
  have c0 := h.c0
  have fz := h.fz
  have hlen := h.len
  obtain ⟨p, c, rfl, hp⟩ := h.ints
  by_cases hlt : k < l.length
  · have hx := hD.out.wf _ (getD_mem hlt)
    obtain ⟨b, off, rfl, hc⟩ := hp (by omega)
    have ck := hc k hlt
    have hbd : b < d := Nat.lt_of_lt_of_le (hD.out.blk (by omega) b rfl) hD.out.ge
    have hset := fun a => (hD.out.drewN a).set (k + 1) (by omega)
    generalize l.getD k 0 = x at *
    have hb1 := Int.lt_tmod_of_pos x (show (0 : Int) < n by omega)
    have hb2 := Int.tmod_lt_of_pos x (show (0 : Int) < n by omega)
    obtain ⟨y, hy1, hy2⟩ := next_val x n (by omega)
    have hfin : ∀ na nq, NextOut n B d (.slice (some ⟨b, off, none⟩) l.length c) l w (.returned (.int .i64 y)) (((w.drewN na).setCell ⟨d, 1, none⟩ (.int .i64 ((k + 1 : Nat) : Int))).drewN nq) := fun na nq => ⟨y, by omega, rfl, (hset na).drewN nq, (((Kept.refl d w).drewN na).set _ _).drewN nq⟩
    have hfin' := Lib.hid hfin
    have hk1 : ((k + 1 : Nat) : Int) = (k : Int) + 1 := by omega
    rw [hk1] at hfin'
    have hx1 := hx.1
    have hx2 := hx.2
    have hy1' := Lib.hid hy1
    have ck' : (w.setCell ⟨d, 1, none⟩ (.int .i64 ((k : Int) + 1))).cell? ⟨b, off + k, none⟩ = some (.int .i64 x) := by rw [World.cell?_setCell_other _ _ _ _ (by intro e; simp only [Addr.mk.injEq] at e; omega)]; exact ck
    clear hfin hp hc hset hx h hy1 hk1
    generalize l.length = m at *
    have t1 : decide ((m : Int) ≤ (k : Int)) = false := by simp; omega
    have t2 : IntKind.i64.wrap ((k : Int) + 1 - 1) = (k : Int) := by rw [wrap_i] <;> omega
    have t3 : (((n : Int) == 0)) = false := by simp; omega
    go_enter Tryz.func36, Tryz.ntmps36
    go_wp2_with fail
    go_quiet (fail)
    go_wp2_with fail
    go_quiet (fail)
    go_wp2_with fail
    go_ret
    show NextOut _ _ _ _ _ _ (.returned (.int .i64 ((x.tmod n + n) % n))) _
    rw [hy1'.out]
    exact hfin'.out _ _
  · obtain rfl : k = l.length := by omega
    have hfin : ∀ nq, NextOut n B d (.slice p l.length c) l w (.returned (.int .i64 0)) (w.drewN nq) := fun nq => ⟨0, hn, rfl, hD.out.drewN nq, (Kept.refl d w).drewN nq⟩
    have hfin' := Lib.hid hfin
    clear hfin hp h hlt hk
    generalize l.length = k at *
    have t1 : decide ((k : Int) ≤ (k : Int)) = true := by simp
    go_enter Tryz.func36, Tryz.ntmps36
    go_wp2_with fail
    go_quiet (fail)
    go_wp2_with fail
    go_ret
    exact hfin'.out _

theorem Kept.grown {d : Nat} {a w w' : World} {row : Option Nat} (h : Kept d a w) (hg : w.grownBy w' row) (hr : ∀ g, row = some g → a.heap.size ≤ g) : Kept d a w' :=
  ⟨hg.os.trans h.os, hg.tape.trans h.tape, hg.output.trans h.output, Nat.le_trans h.size hg.size, fun k hk hd =>
    (hg.block k (Nat.lt_of_lt_of_le hk h.size) (fun e => by have := hr k e.symm; omega)).trans (h.block k hk hd)⟩
theorem Kept.alloc {d : Nat} {a w : World} (h : Kept d a w) (o : Obj) : Kept d a (w.alloc o) :=
  ⟨h.os, h.tape, h.output, by have := h.size; simp; omega, fun k hk hd => by rw [Below.heap_alloc _ _ _ (Nat.lt_of_lt_of_le hk h.size)]; exact h.block k hk hd⟩
theorem Deck.grown {B : Nat} {w w' : World} {d : Nat} {v : Value} {l : List Int} {row : Option Nat} (h : Deck B w d v l) (hg : w.grownBy w' row) (hr : ∀ g, row = some g → d < g) : Deck B w' d v l := by
  obtain ⟨k, hk, hc⟩ := h.c1
  have e : w'.heap[d]? = w.heap[d]? := hg.block d h.lt (fun e => by have := hr d e.symm; omega)
  refine ⟨h.ge, Nat.lt_of_lt_of_le h.lt hg.size, ?_, ⟨k, hk, ?_⟩, ?_, ?_, h.blk, h.len, h.wf⟩
  · rw [World.cell?_of_block (w := w) (a := ⟨d, 0, none⟩) e]; exact h.c0
  · rw [World.cell?_of_block (w := w) (a := ⟨d, 1, none⟩) e]; exact hc
  · rw [World.frozen?_of_block (w := w) (a := ⟨d, 1, none⟩) e]; exact h.fz
  · obtain ⟨p, c, rfl, hp⟩ := h.ints
    refine ⟨p, c, rfl, fun h0 => ?_⟩
    obtain ⟨b, off, rfl, hcc⟩ := hp h0
    refine ⟨b, off, rfl, fun j hj => ?_⟩
    have h1 := h.blk h0 b rfl
    have h2 := h.ge
    exact hg.cell (hcc j hj) (fun e => by have := hr b e.symm; omega)

end Go.Proofs.YtjmipikahaoblaaGreatDoor.Dk
namespace Go.Proofs.YtjmipikahaoblaaGreatDoor.Syn
open Go.RowKit Go.Lib Go.Proofs.YtjmipikahaoblaaGreatDoor.Bas Go.Proofs.YtjmipikahaoblaaGreatDoor.Cal Go.Proofs.YtjmipikahaoblaaGreatDoor.Lx Go.Proofs.YtjmipikahaoblaaGreatDoor.Sc Go.Proofs.YtjmipikahaoblaaGreatDoor.Dk
set_option linter.unusedVariables false

/-- What counts of a token. -/
def tok (x : Tk) : Tok := ⟨x.k, x.t, x.n⟩
def toks (L : List Tk) : List Tok := L.map tok
theorem toks_len (L : List Tk) : (toks L).length = L.length := by simp [toks]
theorem tk_toks (L : List Tk) (i : Nat) : tk (toks L) i = tok (Lx.tk L i) := by
  unfold tk toks Lx.tk
  rw [List.getD_eq_getElem?_getD, List.getD_eq_getElem?_getD, List.getElem?_map]
  cases L[i]? <;> rfl
/-- The value reads as these tokens, in a block below B other than d. -/
def TksB (B d : Nat) (w : World) (v : Value) (L : List Tk) : Prop := ∃ p c, v = .slice p L.length c ∧ (L.length ≤ c ∧ (p = none → c = 0)) ∧ (0 < L.length → ∃ b off, p = some ⟨b, off, none⟩ ∧ b < B ∧ b ≠ d ∧
  ∀ i, i < L.length → w.cell? ⟨b, off + i * 4, none⟩ = some (.int .i64 (Lx.tk L i).k) ∧ w.cell? ⟨b, off + i * 4 + 1, none⟩ = some (.string (tx (Lx.tk L i).t)) ∧ w.cell? ⟨b, off + i * 4 + 2, none⟩ = some (.int .i64 (Lx.tk L i).n) ∧ w.cell? ⟨b, off + i * 4 + 3, none⟩ = some (.int .i64 (Lx.tk L i).p))
theorem TksB.frame {B d : Nat} {w w' : World} {v : Value} {L : List Tk} (h : TksB B d w v L) (hf : ∀ b, b < B → b ≠ d → w'.heap[b]? = w.heap[b]?) : TksB B d w' v L := by
  obtain ⟨p, c, hv, hc, hp⟩ := h
  refine ⟨p, c, hv, hc, fun h0 => ?_⟩
  obtain ⟨b, off, e, h1, h2, hh⟩ := hp h0
  refine ⟨b, off, e, h1, h2, fun i hi => ?_⟩
  obtain ⟨g0, g1, g2, g3⟩ := hh i hi
  have hb := hf b h1 h2
  exact ⟨cell_same g0 fun _ => hb, cell_same g1 fun _ => hb, cell_same g2 fun _ => hb, cell_same g3 fun _ => hb⟩
/-- A reader at block d over the tokens L, at the state s; all that it needs lies below B. -/
structure RdAt (B : Nat) (w : World) (d : Nat) (v : Value) (L : List Tk) (s : Nat × Int) : Prop where
  lt : d < B
  le : B ≤ w.heap.size
  c0 : w.cell? ⟨d, 0, none⟩ = some v
  c1 : w.cell? ⟨d, 1, none⟩ = some (.int .i64 s.1)
  c2 : w.cell? ⟨d, 2, none⟩ = some (.int .i64 s.2)
  f1 : w.frozen? ⟨d, 1, none⟩ = false
  f2 : w.frozen? ⟨d, 2, none⟩ = false
  tks : TksB B d w v L
  ops : OpsAt w
  gd : 0 < d
  idx : s.1 ≤ L.length
  len : L.length ≤ 500000
  wf : ∀ j, (Lx.tk L j).t.length ≤ 9223372036854775807
theorem RdAt.frame {B : Nat} {w w' : World} {d : Nat} {v : Value} {L : List Tk} {s : Nat × Int} (h : RdAt B w d v L s) (hf : ∀ b, b < B → w'.heap[b]? = w.heap[b]?) (hs : w.heap.size ≤ w'.heap.size) : RdAt B w' d v L s := by
  have hd := hf d h.lt
  exact ⟨h.lt, Nat.le_trans h.le hs, cell_same h.c0 fun _ => hd, cell_same h.c1 fun _ => hd, cell_same h.c2 fun _ => hd, by rw [World.frozen?_of_block (w := w) (a := ⟨d, 1, none⟩) hd]; exact h.f1, by rw [World.frozen?_of_block (w := w) (a := ⟨d, 2, none⟩) hd]; exact h.f2,
    h.tks.frame fun b hb _ => hf b hb, h.ops.block (hf _ (Nat.lt_trans h.gd h.lt)), h.gd, h.idx, h.len, h.wf⟩
theorem RdAt.below {B C : Nat} {w w' : World} {d : Nat} {v : Value} {L : List Tk} {s : Nat × Int} (h : RdAt B w d v L s) (hb : Below C w w') (hC : B ≤ C) : RdAt B w' d v L s := h.frame (fun b h1 => hb.block b (by omega)) hb.size
theorem RdAt.keep {B : Nat} {w w' : World} {d : Nat} {v : Value} {L : List Tk} {s : Nat × Int} (h : RdAt B w d v L s) (hb : Below w.heap.size w w') : RdAt B w' d v L s := h.below hb h.le
theorem RdAt.drewN {B : Nat} {w : World} {d : Nat} {v : Value} {L : List Tk} {s : Nat × Int} (h : RdAt B w d v L s) (n : Nat) : RdAt B (w.drewN n) d v L s := h.frame (fun _ _ => rfl) (Nat.le_refl _)
theorem setCell_block (w : World) (d o b : Nat) (x : Value) (h : b ≠ d) : (w.setCell ⟨d, o, none⟩ x).heap[b]? = w.heap[b]? := Below.heap_setCell _ _ _ _ h
theorem RdAt.go {B : Nat} {w : World} {d : Nat} {v : Value} {L : List Tk} {s : Nat × Int} (h : RdAt B w d v L s) (hlt : s.1 < L.length) : RdAt B (w.setCell ⟨d, 1, none⟩ (.int .i64 ((s.1 : Int) + 1))) d v L (goS s) := by
  refine ⟨h.lt, by simpa using h.le, ?_, ?_, ?_, ?_, ?_, h.tks.frame fun b _ hb => setCell_block _ _ _ _ _ hb, h.ops.block (setCell_block _ _ _ _ _ (Nat.ne_of_lt h.gd)), h.gd, hlt, h.len, h.wf⟩
  · rw [World.cell?_setCell_other _ _ _ _ (by simp)]; exact h.c0
  · exact (World.cell?_setCell_same _ _ _ h.c1)
  · rw [World.cell?_setCell_other _ _ _ _ (by simp)]; exact h.c2
  · rw [World.frozen?_setCell]; exact h.f1
  · rw [World.frozen?_setCell]; exact h.f2
theorem RdAt.err {B : Nat} {w : World} {d : Nat} {v : Value} {L : List Tk} {i : Nat} {x : Int} (h : RdAt B w d v L (i, x)) (e : Int) : RdAt B (w.setCell ⟨d, 2, none⟩ (.int .i64 e)) d v L (i, e) := by
  refine ⟨h.lt, by simpa using h.le, ?_, ?_, ?_, ?_, ?_, h.tks.frame fun b _ hb => setCell_block _ _ _ _ _ hb, h.ops.block (setCell_block _ _ _ _ _ (Nat.ne_of_lt h.gd)), h.gd, h.idx, h.len, h.wf⟩
  · rw [World.cell?_setCell_other _ _ _ _ (by simp)]; exact h.c0
  · rw [World.cell?_setCell_other _ _ _ _ (by simp)]; exact h.c1
  · exact (World.cell?_setCell_same _ _ _ h.c2)
  · rw [World.frozen?_setCell]; exact h.f1
  · rw [World.frozen?_setCell]; exact h.f2
theorem Kept.setD {d : Nat} {w : World} (o : Nat) (u : Value) : Kept d w (w.setCell ⟨d, o, none⟩ u) := (Kept.refl d w).set o u
/-- The next token. -/
def NextOut (B d : Nat) (v : Value) (L : List Tk) (s : Nat × Int) (w : World) (e : Ending) (w' : World) : Prop := ∃ x : Tk, e = .returned (tkV x) ∧ tok x = nxT (toks L) s ∧ RdAt B w' d v L s ∧ Below w.heap.size w w' ∧ x.t.length ≤ 9223372036854775807
theorem nx_err {L : List Tk} {s : Nat × Int} (h : s.2 ≠ 0) : nxT (toks L) s = tok z0 := by unfold nxT; rw [if_pos h]; rfl
theorem nx_end {L : List Tk} {s : Nat × Int} (h : s.1 = L.length) : nxT (toks L) s = tok z0 := by
  unfold nxT
  split
  · rfl
  · rw [tk_out (by rw [toks_len]; omega)]; rfl
theorem nx_at {L : List Tk} {s : Nat × Int} (h : s.2 = 0) : nxT (toks L) s = tok (Lx.tk L s.1) := by
  unfold nxT; rw [if_neg (by simpa using h), tk_toks]
theorem set4_below {C b : Nat} {a w : World} (h : Below C a w) (hb : C ≤ b) (v0 v1 v2 v3 : Value) : Below C a ((((w.setCell ⟨b, 0, none⟩ v0).setCell ⟨b, 1, none⟩ v1).setCell ⟨b, 2, none⟩ v2).setCell ⟨b, 3, none⟩ v3) :=
  (((h.setCell (p := ⟨b, 0, none⟩) hb _).setCell (p := ⟨b, 1, none⟩) hb _).setCell (p := ⟨b, 2, none⟩) hb _).setCell (p := ⟨b, 3, none⟩) hb _
abbrev z4 : Obj := .cells #[.int .i64 0, .string { data := #[] }, .int .i64 0, .int .i64 0] 71
set_option maxRecDepth 8000 in
set_option maxHeartbeats 4000000 in
theorem next_at (B d : Nat) (v : Value) (L : List Tk) (i : Nat) (w : World) (h : RdAt B w d v L (i, 0)) (hlt : i < L.length) : Calls Tryz.prog 152 #[.pointer (some ⟨d, 0, none⟩)] w (NextOut B d v L (i, 0) w) := by
  have al := alloc_at w z4
  have hdw : d < w.heap.size := Nat.lt_of_lt_of_le h.lt h.le
  have c0 := cell_same h.c0 (al.block d)
  have c1 := cell_same h.c1 (al.block d)
  have c2 := cell_same h.c2 (al.block d)
  have hl : L.length ≤ 1000000 := Nat.le_trans h.len (by decide)
  have hfin := Lib.hid (show ∀ w', Below w.heap.size w w' → NextOut B d v L (i, 0) w (.returned (tkV (Lx.tk L i))) w' from fun w' hb => ⟨Lx.tk L i, rfl, (nx_at (L := L) (s := (i, 0)) rfl).symm, h.keep hb, hb, h.wf i⟩)
  obtain ⟨p, c, rfl, _, hp⟩ := h.tks
  obtain ⟨b, off, rfl, hb, hbd, hc⟩ := hp (by omega)
  obtain ⟨g0, g1, g2, g3⟩ := hc i hlt
  have hbw : b < w.heap.size := Nat.lt_of_lt_of_le hb h.le
  have g0 := cell_same g0 (al.block b)
  have g1 := cell_same g1 (al.block b)
  have g2 := cell_same g2 (al.block b)
  have g3 := cell_same g3 (al.block b)
  have K0 := TkAt.new w z0
  have al' := Lib.hid al
  simp only at c1 c2
  clear h hp hc
  generalize L.length = n at *
  unfold tkV at hfin
  generalize Lx.tk L i = x at *
  have t2 : ((i : Int) == (n : Int)) = false := by simp; omega
  have t3 : (i == n) = false := by simp; omega
  go_enter Tryz.func152, Tryz.ntmps152
  go_upto_region 1 with fail
  have hz : (Obj.cells #[.int .i64 z0.k, .string (tx z0.t), .int .i64 z0.n, .int .i64 z0.p] 71) = z4 := rfl
  rw [hz] at K0
  obtain ⟨b0, hb0⟩ : ∃ b, w.heap.size = b := ⟨_, rfl⟩
  rw [hb0] at K0 hfin al' ⊢
  clear al hz hdw hbw hb0
  generalize w.alloc z4 = W0 at *
  have T0 := Lib.hid (K0.set x)
  have K1 := Lib.hid K0
  obtain ⟨_, ⟨k0, k1, k2, k3⟩, f0, f1, f2, f3⟩ := K0
  go_wp2_with fail
  go_quiet (fail)
  go_wp2_with fail
  have KQ := Lib.hid (show TkAt (W0.drewN nq) b0 z0 from K1.out)
  generalize hW1 : W0.drewN nq = W1 at *
  have e1 : ∀ a, W1.cell? a = W0.cell? a := fun a => by rw [← hW1]; rfl
  have e2 : ∀ a, W1.frozen? a = W0.frozen? a := fun a => by rw [← hW1]; rfl
  have al1 := Lib.hid (show Below b0 w W1 from by rw [← hW1]; exact below_drewN al'.out _)
  rw [← e1] at c0 c1 c2 g0 g1 g2 g3 k0 k1 k2 k3
  rw [← e2] at f0 f1 f2 f3
  clear e1 e2 hW1 al'
  have T1 := Lib.hid (KQ.out.set x)
  have B1 := Lib.hid (below_setTk al1.out (Nat.le_refl b0) x)
  clear T0 K1 KQ
  go_region
  refine (show Exit.then _ _ _ _ (setTk W1 b0 x).drew from ?_)
  generalize setTk W1 b0 x = W2 at *
  obtain ⟨_, ⟨q0, q1, q2, q3⟩, _⟩ := T1.out
  go_wp2_with fail
  exact bodyPost_ret (v := .agg #[.int .i64 x.k, .string (tx x.t), .int .i64 x.n, .int .i64 x.p]) (by simp [results, Tryz.results152, go_sem, q0, q1, q2, q3]) rfl (hfin.out _ (below_drewN B1.out 1))
set_option maxRecDepth 8000 in
set_option maxHeartbeats 4000000 in
theorem next_none (B d : Nat) (v : Value) (L : List Tk) (i : Nat) (er : Int) (w : World) (h : RdAt B w d v L (i, er)) (hs : er ≠ 0 ∨ i = L.length) : Calls Tryz.prog 152 #[.pointer (some ⟨d, 0, none⟩)] w (NextOut B d v L (i, er) w) := by
  have al := alloc_at w z4
  have hdw : d < w.heap.size := Nat.lt_of_lt_of_le h.lt h.le
  have c0 := cell_same h.c0 (al.block d)
  have c1 := cell_same h.c1 (al.block d)
  have c2 := cell_same h.c2 (al.block d)
  have hl : L.length ≤ 1000000 := Nat.le_trans h.len (by decide)
  have hi := h.idx
  have hfin := Lib.hid (show ∀ w', Below w.heap.size w w' → NextOut B d v L (i, er) w (.returned (tkV z0)) w' from fun w' hb => ⟨z0, rfl, by
    rcases hs with e | e
    · exact (nx_err (L := L) (s := (i, er)) e).symm
    · exact (nx_end (L := L) (s := (i, er)) e).symm, h.keep hb, hb, Nat.zero_le _⟩)
  obtain ⟨p, c, rfl, _, hp⟩ := h.tks
  have K0 := TkAt.new w z0
  have al' := Lib.hid al
  simp only at c1 c2 hi
  clear h hp
  generalize L.length = n at *
  unfold tkV at hfin
  go_enter Tryz.func152, Tryz.ntmps152
  go_upto_region 1 with fail
  have hz : (Obj.cells #[.int .i64 z0.k, .string (tx z0.t), .int .i64 z0.n, .int .i64 z0.p] 71) = z4 := rfl
  rw [hz] at K0
  obtain ⟨b0, hb0⟩ : ∃ b, w.heap.size = b := ⟨_, rfl⟩
  rw [hb0] at K0 hfin al' ⊢
  clear al hz hdw hb0
  generalize w.alloc z4 = W0 at *
  have T0 := Lib.hid (fun q => (show TkAt (W0.drewN q) b0 z0 from K0).set z0)
  have K1 := Lib.hid K0
  obtain ⟨_, ⟨k0, k1, k2, k3⟩, f0, f1, f2, f3⟩ := K0
  have hB := Lib.hid (fun q => below_setTk (below_drewN al'.out q) (Nat.le_refl b0) z0)
  clear al'
  by_cases he : er = 0
  · obtain rfl : i = n := by omega
    have t0 : (er != 0) = false := by simp [he]
    have t2 : ((i : Int) == (i : Int)) = true := by simp
    clear hs
    go_wp2_with fail
    go_quiet (fail)
    go_wp2_with fail
    have T1 := Lib.hid (T0.out nq)
    have B1 := Lib.hid (hB.out nq)
    refine (show bodyPost _ _ _ _ _ (setTk (W0.drewN nq) b0 z0) from ?_)
    generalize setTk (W0.drewN nq) b0 z0 = W2 at *
    obtain ⟨_, ⟨q0, q1, q2, q3⟩, _⟩ := T1.out
    exact bodyPost_ret (v := .agg #[.int .i64 z0.k, .string (tx z0.t), .int .i64 z0.n, .int .i64 z0.p]) (by simp [results, Tryz.results152, go_sem, q0, q1, q2, q3]) rfl (hfin.out _ B1.out)
  · have t0 : (er != 0) = true := by simp [he]
    clear hs
    go_wp2_with fail
    go_quiet (fail)
    go_wp2_with fail
    have T1 := Lib.hid (T0.out nq)
    have B1 := Lib.hid (hB.out nq)
    refine (show bodyPost _ _ _ _ _ (setTk (W0.drewN nq) b0 z0) from ?_)
    generalize setTk (W0.drewN nq) b0 z0 = W2 at *
    obtain ⟨_, ⟨q0, q1, q2, q3⟩, _⟩ := T1.out
    exact bodyPost_ret (v := .agg #[.int .i64 z0.k, .string (tx z0.t), .int .i64 z0.n, .int .i64 z0.p]) (by simp [results, Tryz.results152, go_sem, q0, q1, q2, q3]) rfl (hfin.out _ B1.out)
theorem next_any (B d : Nat) (v : Value) (L : List Tk) (s : Nat × Int) (w : World) (h : RdAt B w d v L s) : Calls Tryz.prog 152 #[.pointer (some ⟨d, 0, none⟩)] w (NextOut B d v L s w) := by
  obtain ⟨i, er⟩ := s
  by_cases he : er = 0
  · subst he
    by_cases hi : i < L.length
    · exact next_at B d v L i w h hi
    · exact next_none B d v L i 0 w h (.inr (by have := h.idx; simp only at this; omega))
  · exact next_none B d v L i er w h (.inl he)
/-- An error is noted. -/
def FailOut (B d : Nat) (v : Value) (L : List Tk) (s : Nat × Int) (w : World) (e : Ending) (w' : World) : Prop := ∃ u, e = .returned u ∧ RdAt B w' d v L s ∧ Kept d w w'
set_option maxRecDepth 8000 in
set_option maxHeartbeats 4000000 in
theorem fail_any (B d : Nat) (v : Value) (L : List Tk) (s : Nat × Int) (x : Int) (w : World) (h : RdAt B w d v L s) : Calls Tryz.prog 169 #[.pointer (some ⟨d, 0, none⟩), .int .i64 x] w (FailOut B d v L (failS s x) w) := by
  obtain ⟨i, er⟩ := s
  have c2 := h.c2
  have f2 := h.f2
  simp only at c2
  have h' := Lib.hid h
  unfold failS
  clear h
  by_cases he : er = 0
  · have t0 : (er == 0) = true := by simp [he]
    rw [if_pos he]
    go_enter Tryz.func169, Tryz.ntmps169
    go_wp2_with fail
    exact bodyPost_ret (v := .tuple #[]) (by simp [results, Tryz.results169, go_sem]) rfl ⟨_, rfl, h'.out.err x, Kept.setD 2 _⟩
  · have t0 : (er == 0) = false := by simp [he]
    rw [if_neg he]
    go_enter Tryz.func169, Tryz.ntmps169
    go_wp2_with fail
    exact bodyPost_ret (v := .tuple #[]) (by simp [results, Tryz.results169, go_sem]) rfl ⟨_, rfl, h'.out, Kept.refl _ _⟩
end Go.Proofs.YtjmipikahaoblaaGreatDoor.Syn
namespace Go.Proofs.YtjmipikahaoblaaGreatDoor.Syn
open Go.RowKit Go.Lib Go.Proofs.YtjmipikahaoblaaGreatDoor.Bas Go.Proofs.YtjmipikahaoblaaGreatDoor.Cal Go.Proofs.YtjmipikahaoblaaGreatDoor.Lx Go.Proofs.YtjmipikahaoblaaGreatDoor.Sc Go.Proofs.YtjmipikahaoblaaGreatDoor.Dk
set_option linter.unusedVariables false

def TakeOut (B d : Nat) (v : Value) (L : List Tk) (s : Nat × Int) (k : Int) (t : List UInt8) (w : World) (e : Ending) (w' : World) : Prop :=
  e = .returned (.bool (takeB (toks L) s k t)) ∧ RdAt B w' d v L (takeS (toks L) s k t) ∧ Kept d w w'
theorem kept_alloc (d : Nat) (w : World) (o : Obj) : Kept d w (w.alloc o) := Kept.of_below (alloc_at w o)
set_option maxRecDepth 8000 in
set_option maxHeartbeats 8000000 in
theorem takes_any (B d : Nat) (v : Value) (L : List Tk) (s : Nat × Int) (k : Int) (hk : k ≠ 0) (t : List UInt8) (w : World) (h : RdAt B w d v L s) :
    Calls Tryz.prog 123 #[.pointer (some ⟨d, 0, none⟩), .int .i64 k, .string (tx t)] w (TakeOut B d v L s k t w) := by
  have cN := Lib.hid (next_any B d v L s w h)
  have hlt : takeB (toks L) s k t = true → s.1 < L.length := fun hb => by
    obtain ⟨i, er⟩ := s
    by_cases he : er = 0
    · subst he
      have := takeB_lt hk hb
      rwa [toks_len] at this
    · rw [takeB_no _ _ k t he hk] at hb; cases hb
  have hlen : L.length ≤ 1000000 := Nat.le_trans h.len (by decide)
  have ht : takeB (toks L) s k t = decide ((nxT (toks L) s).k = k ∧ (nxT (toks L) s).t = t) := rfl
  unfold TakeOut takeS
  obtain ⟨bk, hbk⟩ : ∃ b, takeB (toks L) s k t = b := ⟨_, rfl⟩
  rw [hbk] at hlt ht ⊢
  have hlt' := Lib.hid hlt
  have ht' := Lib.hid ht
  clear hlt ht hbk h
  go_enter Tryz.func123, Tryz.ntmps123
  go_wp2_with fail
  refine cN.out.mono ?_; rintro e w1 ⟨x, rfl, hx, hR, hB, hxl⟩
  have ht2 : bk = decide (x.k = k ∧ x.t = t) := by rw [ht'.out, ← hx]; rfl
  have al := alloc_at w1 (.cells #[.int .i64 x.k, .string (tx x.t), .int .i64 x.n, .int .i64 x.p] 71)
  have R2 := Lib.hid (hR.keep al)
  have K2 := Lib.hid ((Kept.of_below (d := d) hB).trans (Kept.of_below al))
  have T2 := TkAt.new w1 x
  clear hR hB cN ht' hx al
  unfold tkV
  go_upto_region 2 with fail
  obtain ⟨b7, hb7⟩ : ∃ b, w1.heap.size = b := ⟨_, rfl⟩
  rw [hb7] at T2 ⊢
  clear hb7
  generalize w1.alloc (.cells #[.int .i64 x.k, .string (tx x.t), .int .i64 x.n, .int .i64 x.p] 71) = W2 at *
  obtain ⟨_, ⟨y0, y1, _, _⟩, _⟩ := T2
  have c1 := R2.out.c1
  have f1 := R2.out.f1
  by_cases h1 : x.k = k
  · have t1 : (x.k == k) = true := by simpa using h1
    have t1' : (x.k != k) = false := by simp [h1]
    have tt := tx_test x.t t
    by_cases h2 : x.t = t
    · rw [decide_eq_true h2] at tt
      rw [decide_eq_true ⟨h1, h2⟩] at ht2
      subst ht2
      have hl := hlt'.out rfl
      have R3 := Lib.hid (R2.out.go hl)
      have e2 : IntKind.i64.wrap ((s.1 : Int) + 1) = (s.1 : Int) + 1 := IntWalk.i64_in _ (by omega)
      generalize tx x.t = sx at *
      generalize tx t = st at *
      clear h1 h2
      go_wp2_with fail
      go_ret
      exact ⟨rfl, R3.out, K2.out.set 1 _⟩
    · rw [decide_eq_false h2] at tt
      rw [decide_eq_false (fun e => h2 e.2)] at ht2
      subst ht2
      generalize tx x.t = sx at *
      generalize tx t = st at *
      clear h1 h2
      go_wp2_with fail
      go_ret
      exact ⟨rfl, R2.out, K2.out⟩
  · have t1 : (x.k == k) = false := by simpa using h1
    have t1' : (x.k != k) = true := by simp [h1]
    rw [decide_eq_false (fun e => h1 e.1)] at ht2
    subst ht2
    clear h1
    go_wp2_with fail
    go_ret
    exact ⟨rfl, R2.out, K2.out⟩
theorem takesWord_any (B d : Nat) (v : Value) (L : List Tk) (s : Nat × Int) (t : List UInt8) (w : World) (h : RdAt B w d v L s) :
    Calls Tryz.prog 83 #[.pointer (some ⟨d, 0, none⟩), .string (tx t)] w (TakeOut B d v L s 1 t w) := by
  have c1 := Lib.hid (takes_any B d v L s 1 (by decide) t w h)
  clear h
  generalize tx t = st at *
  go_enter Tryz.func83, Tryz.ntmps83
  go_wp2_with fail
  refine c1.out.mono ?_; rintro e w1 ⟨rfl, hR, hK⟩
  have R := Lib.hid hR
  have K := Lib.hid hK
  clear hR hK
  go_wp2_with fail
  go_ret
  exact ⟨rfl, R.out, K.out⟩
theorem takesMark_any (B d : Nat) (v : Value) (L : List Tk) (s : Nat × Int) (t : List UInt8) (w : World) (h : RdAt B w d v L s) :
    Calls Tryz.prog 149 #[.pointer (some ⟨d, 0, none⟩), .string (tx t)] w (TakeOut B d v L s 4 t w) := by
  have c1 := Lib.hid (takes_any B d v L s 4 (by decide) t w h)
  clear h
  generalize tx t = st at *
  go_enter Tryz.func149, Tryz.ntmps149
  go_wp2_with fail
  refine c1.out.mono ?_; rintro e w1 ⟨rfl, hR, hK⟩
  have R := Lib.hid hR
  have K := Lib.hid hK
  clear hR hK
  go_wp2_with fail
  go_ret
  exact ⟨rfl, R.out, K.out⟩
theorem wantS_yes {L : List Tok} {s : Nat × Int} {k : Int} {t : List UInt8} (h : takeB L s k t = true) : wantS L s k t = takeS L s k t := by
  unfold wantS takeS; rw [if_pos h, if_pos h]
theorem wantS_not {L : List Tok} {s : Nat × Int} {k : Int} {t : List UInt8} (h : takeB L s k t = false) : wantS L s k t = failS s 5 ∧ takeS L s k t = s := by
  unfold wantS takeS; rw [if_neg (by simp [h]), if_neg (by simp [h])]; exact ⟨rfl, rfl⟩
set_option maxHeartbeats 4000000 in
theorem wantsMark_any (B d : Nat) (v : Value) (L : List Tk) (s : Nat × Int) (t : List UInt8) (w : World) (h : RdAt B w d v L s) :
    Calls Tryz.prog 150 #[.pointer (some ⟨d, 0, none⟩), .string (tx t)] w (FailOut B d v L (wantS (toks L) s 4 t) w) := by
  have c1 := Lib.hid (takesMark_any B d v L s t w h)
  have c2 := Lib.hid (fun w h => fail_any B d v L s 5 w h)
  have hy := Lib.hid (fun h => wantS_yes (L := toks L) (s := s) (k := 4) (t := t) h)
  have hn := Lib.hid (fun h => wantS_not (L := toks L) (s := s) (k := 4) (t := t) h)
  clear h
  unfold TakeOut at c1
  generalize takeB (toks L) s 4 t = b at *
  generalize takeS (toks L) s 4 t = s1 at *
  generalize wantS (toks L) s 4 t = s2 at *
  generalize tx t = st at *
  go_enter Tryz.func150, Tryz.ntmps150
  go_wp2_with fail
  refine c1.out.mono ?_; rintro e w1 ⟨rfl, hR, hK⟩
  have R := Lib.hid hR
  have K := Lib.hid hK
  clear hR hK
  cases b with
  | true =>
    have hs := Lib.hid (hy.out rfl)
    clear hy hn
    go_wp2_with fail
    exact bodyPost_ret (v := .tuple #[]) (by simp [results, Tryz.results150, go_sem]) rfl ⟨_, rfl, by rw [hs.out]; exact R.out, K.out⟩
  | false =>
    obtain ⟨h1, h2⟩ := hn.out rfl
    have hs := Lib.hid h1
    rw [h2] at R
    have cF := Lib.hid (c2.out w1 R.out)
    clear hy hn h1 h2
    go_wp2_with fail
    refine cF.out.mono ?_; rintro e w2 ⟨u, rfl, hR2, hK2⟩
    have R2 := Lib.hid hR2
    have K2 := Lib.hid (K.out.trans hK2)
    clear hR2 hK2
    go_wp2_with fail
    exact bodyPost_ret (v := .tuple #[]) (by simp [results, Tryz.results150, go_sem]) rfl ⟨_, rfl, by rw [hs.out]; exact R2.out, K2.out⟩
set_option maxHeartbeats 4000000 in
theorem wantsWord_any (B d : Nat) (v : Value) (L : List Tk) (s : Nat × Int) (t : List UInt8) (w : World) (h : RdAt B w d v L s) :
    Calls Tryz.prog 173 #[.pointer (some ⟨d, 0, none⟩), .string (tx t)] w (FailOut B d v L (wantS (toks L) s 1 t) w) := by
  have c1 := Lib.hid (takesWord_any B d v L s t w h)
  have c2 := Lib.hid (fun w h => fail_any B d v L s 5 w h)
  have hy := Lib.hid (fun h => wantS_yes (L := toks L) (s := s) (k := 1) (t := t) h)
  have hn := Lib.hid (fun h => wantS_not (L := toks L) (s := s) (k := 1) (t := t) h)
  clear h
  unfold TakeOut at c1
  generalize takeB (toks L) s 1 t = b at *
  generalize takeS (toks L) s 1 t = s1 at *
  generalize wantS (toks L) s 1 t = s2 at *
  generalize tx t = st at *
  go_enter Tryz.func173, Tryz.ntmps173
  go_wp2_with fail
  refine c1.out.mono ?_; rintro e w1 ⟨rfl, hR, hK⟩
  have R := Lib.hid hR
  have K := Lib.hid hK
  clear hR hK
  cases b with
  | true =>
    have hs := Lib.hid (hy.out rfl)
    clear hy hn
    go_wp2_with fail
    exact bodyPost_ret (v := .tuple #[]) (by simp [results, Tryz.results173, go_sem]) rfl ⟨_, rfl, by rw [hs.out]; exact R.out, K.out⟩
  | false =>
    obtain ⟨h1, h2⟩ := hn.out rfl
    have hs := Lib.hid h1
    rw [h2] at R
    have cF := Lib.hid (c2.out w1 R.out)
    clear hy hn h1 h2
    go_wp2_with fail
    refine cF.out.mono ?_; rintro e w2 ⟨u, rfl, hR2, hK2⟩
    have R2 := Lib.hid hR2
    have K2 := Lib.hid (K.out.trans hK2)
    clear hR2 hK2
    go_wp2_with fail
    exact bodyPost_ret (v := .tuple #[]) (by simp [results, Tryz.results173, go_sem]) rfl ⟨_, rfl, by rw [hs.out]; exact R2.out, K2.out⟩
/-- A number is read. -/
def NumOut (B d : Nat) (v : Value) (L : List Tk) (s : Nat × Int) (least : Int) (w : World) (e : Ending) (w' : World) : Prop :=
  e = .returned (.int .i64 (nxT (toks L) s).n) ∧ RdAt B w' d v L (numS (toks L) s least) ∧ Kept d w w'
theorem failS_no {s : Nat × Int} {e : Int} (h : s.2 ≠ 0) : failS s e = s := by unfold failS; rw [if_neg h]
/-- What a number leaves, by its token. -/
theorem numS_eq (L : List Tok) (s : Nat × Int) (least : Int) : (((nxT L s).k ≠ 2) → numS L s least = failS s 5) ∧ ((nxT L s).k = 2 → s.2 = 0 ∧ s.1 < L.length ∧ ((nxT L s).n < least ∨ 1000000000 < (nxT L s).n → numS L s least = failS s 1) ∧ (¬ ((nxT L s).n < least ∨ 1000000000 < (nxT L s).n) → numS L s least = goS s)) := by
  obtain ⟨i, er⟩ := s
  by_cases he : er = 0
  · subst he
    have hn : nxT L (i, 0) = tk L i := by unfold nxT; rw [if_neg (by simp)]
    have hS : numS L (i, 0) least = if numE (tk L i) least = 0 then goS (i, 0) else (i, numE (tk L i) least) := by unfold numS; rw [if_neg (by simp)]
    rw [hn, hS]
    refine ⟨fun h => ?_, fun h => ⟨rfl, ?_, fun h2 => ?_, fun h2 => ?_⟩⟩
    · have e : numE (tk L i) least = 5 := by unfold numE; rw [if_pos h]
      rw [e, if_neg (by decide)]; rfl
    · by_cases hi : i < L.length
      · exact hi
      · rw [tk_out (by omega)] at h; cases h
    · have e : numE (tk L i) least = 1 := by unfold numE; rw [if_neg (c := (tk L i).k ≠ 2) (by simp [h]), if_pos h2]
      rw [e, if_neg (by decide)]; rfl
    · have e : numE (tk L i) least = 0 := by unfold numE; rw [if_neg (c := (tk L i).k ≠ 2) (by simp [h]), if_neg h2]
      rw [e, if_pos rfl]
  · have hn : nxT L (i, er) = ⟨0, [], 0⟩ := by unfold nxT; rw [if_pos he]
    have hS : numS L (i, er) least = (i, er) := by unfold numS; rw [if_pos he]
    rw [hn, hS]
    exact ⟨fun _ => (failS_no he).symm, fun h => by cases h⟩
set_option maxRecDepth 8000 in
set_option maxHeartbeats 8000000 in
theorem number_any (B d : Nat) (v : Value) (L : List Tk) (s : Nat × Int) (least : Int) (w : World) (h : RdAt B w d v L s) :
    Calls Tryz.prog 172 #[.pointer (some ⟨d, 0, none⟩), .int .i64 least] w (NumOut B d v L s least w) := by
  have cN := Lib.hid (next_any B d v L s w h)
  have hlen : L.length ≤ 1000000 := Nat.le_trans h.len (by decide)
  obtain ⟨hE1, hE2⟩ := numS_eq (toks L) s least
  rw [toks_len] at hE2
  have c2 := Lib.hid (fun x w h => fail_any B d v L s x w h)
  unfold NumOut
  have hE1' := Lib.hid hE1
  have hE2' := Lib.hid hE2
  generalize numS (toks L) s least = s2 at *
  obtain ⟨x0, hx0⟩ : ∃ x, nxT (toks L) s = x := ⟨_, rfl⟩
  rw [hx0] at hE1' hE2' ⊢
  have hx0' := Lib.hid hx0
  clear hE1 hE2 h hx0
  go_enter Tryz.func172, Tryz.ntmps172
  go_wp2_with fail
  refine cN.out.mono ?_; rintro e w1 ⟨x, rfl, hx, hR, hB, hxl⟩
  obtain rfl : tok x = x0 := hx.trans hx0'.out
  clear hx hx0'
  have al := alloc_at w1 (.cells #[.int .i64 x.k, .string (tx x.t), .int .i64 x.n, .int .i64 x.p] 71)
  have R2 := Lib.hid (hR.keep al)
  have K2 := Lib.hid ((Kept.of_below (d := d) hB).trans (Kept.of_below al))
  have T2 := TkAt.new w1 x
  have hdb : d < w1.heap.size := Nat.lt_of_lt_of_le hR.lt hR.le
  clear hR hB cN al
  unfold tkV
  have hxk : (tok x).k = x.k := rfl
  have hxn : (tok x).n = x.n := rfl
  rw [hxk, hxn] at hE2'
  rw [hxk] at hE1'
  clear hxk hxn
  go_upto_region 3 with fail
  obtain ⟨b5, hb5⟩ : ∃ b, w1.heap.size = b := ⟨_, rfl⟩
  rw [hb5] at T2 hdb ⊢
  clear hb5
  generalize w1.alloc (.cells #[.int .i64 x.k, .string (tx x.t), .int .i64 x.n, .int .i64 x.p] 71) = W2 at *
  have hkeep := Lib.hid (fun (w' : World) (hK : Kept d W2 w') => cell_same (w' := w') T2.2.1.2.2.1 (fun h => hK.block b5 h (by omega)))
  obtain ⟨_, ⟨y0, _, y2, _⟩, _⟩ := T2
  have c1 := R2.out.c1
  have f1 := R2.out.f1
  by_cases h1 : x.k = 2
  · obtain ⟨hs0, hs1, hF, hG⟩ := hE2'.out h1
    have t1 : (x.k == 2) = true := by simp [h1]
    have t1' : (x.k != 2) = false := by simp [h1]
    by_cases h2 : x.n < least
    · have hs := Lib.hid (hF (.inl h2))
      have t2 : decide (x.n < least) = true := decide_eq_true h2
      have cF := Lib.hid (c2.out 1 W2 R2.out)
      clear hF hG h1 h2 hE1' hE2' c2
      go_wp2_with fail
      refine cF.out.mono ?_; rintro e w2 ⟨u, rfl, hR2, hK2⟩
      have y3 := hkeep.out w2 hK2
      have R3 := Lib.hid hR2
      have K3 := Lib.hid (K2.out.trans hK2)
      clear hR2 hK2 y0 y2 c1 f1
      go_wp2_with fail
      go_ret
      exact ⟨rfl, by rw [hs.out]; exact R3.out, K3.out⟩
    · have t2 : decide (x.n < least) = false := decide_eq_false h2
      by_cases h3 : 1000000000 < x.n
      · have hs := Lib.hid (hF (.inr h3))
        have t3 : decide ((1000000000 : Int) < x.n) = true := decide_eq_true h3
        have cF := Lib.hid (c2.out 1 W2 R2.out)
        clear hF hG h1 h2 h3 hE1' hE2' c2
        go_wp2_with fail
        refine cF.out.mono ?_; rintro e w2 ⟨u, rfl, hR2, hK2⟩
        have y3 := hkeep.out w2 hK2
        have R3 := Lib.hid hR2
        have K3 := Lib.hid (K2.out.trans hK2)
        clear hR2 hK2 y0 y2 c1 f1
        go_wp2_with fail
        go_ret
        exact ⟨rfl, by rw [hs.out]; exact R3.out, K3.out⟩
      · have hs := Lib.hid (hG (by omega))
        have t3 : decide ((1000000000 : Int) < x.n) = false := decide_eq_false h3
        have R3 := Lib.hid (R2.out.go hs1)
        have y3 := hkeep.out _ (Kept.setD (w := W2) 1 (.int .i64 ((s.1 : Int) + 1)))
        have e2 : IntKind.i64.wrap ((s.1 : Int) + 1) = (s.1 : Int) + 1 := IntWalk.i64_in _ (by omega)
        clear hF hG h1 h2 h3 hE1' hE2' c2 hs0
        go_wp2_with fail
        go_ret
        exact ⟨rfl, by rw [hs.out]; exact R3.out, K2.out.set 1 _⟩
  · have hs := Lib.hid (hE1'.out h1)
    have t1 : (x.k == 2) = false := by simpa using h1
    have t1' : (x.k != 2) = true := by simp [h1]
    have cF := Lib.hid (c2.out 5 W2 R2.out)
    clear h1 hE1' hE2' c2
    go_wp2_with fail
    refine cF.out.mono ?_; rintro e w2 ⟨u, rfl, hR2, hK2⟩
    have y3 := hkeep.out w2 hK2
    have R3 := Lib.hid hR2
    have K3 := Lib.hid (K2.out.trans hK2)
    clear hR2 hK2 y0 y2 c1 f1
    go_wp2_with fail
    go_ret
    exact ⟨rfl, by rw [hs.out]; exact R3.out, K3.out⟩
end Go.Proofs.YtjmipikahaoblaaGreatDoor.Syn
namespace Go.Proofs.YtjmipikahaoblaaGreatDoor.Syn
open Go.RowKit Go.Lib Go.Proofs.YtjmipikahaoblaaGreatDoor.Bas Go.Proofs.YtjmipikahaoblaaGreatDoor.Cal Go.Proofs.YtjmipikahaoblaaGreatDoor.Lx Go.Proofs.YtjmipikahaoblaaGreatDoor.Sc
set_option linter.unusedVariables false

/-- What is still to come at the state s behind the words l is V. -/
def RelW (L : List Tok) (s : Nat × Int) (l : List (List UInt8)) (V : (Nat × Int) × List (List UInt8)) : Prop :=
  (s.2 ≠ 0 → V.1 = s) ∧ (s.2 = 0 → V.1 = sim (restR L (rs s.1) l).1 ∧ (V.1.2 = 0 → (restR L (rs s.1) l).2 = V.2))
theorem relW_mk (L : List Tok) (j : Nat) (r : Rs) (l1 l2 : List (List UInt8)) (hS : Step (rs j) r) (hl : r.e = 0 → l1 = l2) : RelW L (sim r) l1 (sim (restR L r l2).1, (restR L r l2).2) := by
  refine ⟨fun h => ?_, fun h => ?_⟩
  · have he : r.e ≠ 0 := fun e => h (sim_zero.2 e)
    exact (step_rest L r l2).sim he
  · have he : r.e = 0 := sim_zero.1 h
    obtain rfl := hl he
    have hr := hS.rs he
    rw [sim_ok he]
    simp only
    rw [← hr]
    exact ⟨rfl, fun _ => rfl⟩
theorem wantS_zero (L : List Tok) (i : Nat) (k : Int) (t : List UInt8) : wantS L (i, 0) k t = if takeB L (i, 0) k t = true then (i + 1, 0) else (i, 5) := by
  unfold wantS goS failS; simp
theorem relW_start (L : List Tok) (i : Nat) : RelW L (nameS L (wantS L (i, 0) 4 [40]) []) [(nxT L (wantS L (i, 0) 4 [40])).t] (sim (wordsR L (rs i)).1, (wordsR L (rs i)).2) := by
  have h := want_sim L i 4 [40] (by decide)
  by_cases he : (want L (rs i) 4 [40]).e = 0
  · rw [words_start L (rs i) he]
    have hr := (step_want L (rs i) 4 [40]).rs he
    generalize (want L (rs i) 4 [40]).at' = j at hr
    rw [hr] at h ⊢
    rw [← h, sim_ok rfl]
    obtain ⟨h1, h2⟩ := wordE_sim L j []
    rw [← h1]
    refine relW_mk L j _ _ _ (step_wordE L (rs j) []) fun e => ?_
    rw [h2 e]
    have hn : nxT L (j, 0) = tk L j := by unfold nxT; rw [if_neg (by simp)]
    rw [hn]
  · have hw : wordsR L (rs i) = (want L (rs i) 4 [40], []) := by
      unfold wordsR
      rw [wordsF, if_pos he]
      show (want L (want L (rs i) 4 [40]) 4 [41], []) = _
      rw [want, if_pos he]
    rw [hw]
    have hz : (wantS L (i, 0) 4 [40]).2 ≠ 0 := by rw [← h]; exact fun e => he (sim_zero.1 e)
    have hn : nameS L (wantS L (i, 0) 4 [40]) [] = wantS L (i, 0) 4 [40] := by unfold nameS; rw [if_pos hz]
    rw [hn]
    exact ⟨fun _ => h, fun e => absurd e hz⟩
theorem relW_close (L : List Tok) (i : Nat) (l : List (List UInt8)) (V : (Nat × Int) × List (List UInt8)) (h : RelW L (i, 0) l V) (hb : takeB L (i, 0) 4 [41] = true) : V.1 = (i + 1, 0) ∧ l = V.2 := by
  obtain ⟨h1, h2⟩ := h.2 rfl
  rw [takeB_is L i 4 [41] (by decide)] at hb
  have hr := rest_end L (rs i) l (is_two hb (by decide))
  simp only at h1 h2
  rw [hr] at h1 h2
  rw [want_sim L i 4 [41] (by decide), wantS_zero, takeB_is L i 4 [41] (by decide), if_pos hb] at h1
  exact ⟨h1, h2 (by rw [h1])⟩
theorem relW_comma (L : List Tok) (i : Nat) (l : List (List UInt8)) (V : (Nat × Int) × List (List UInt8)) (h : RelW L (i, 0) l V) (hb : takeB L (i, 0) 4 [41] = false) :
    RelW L (nameS L (wantS L (i, 0) 4 [44]) l) (l ++ [(nxT L (wantS L (i, 0) 4 [44])).t]) V := by
  obtain ⟨h1, h2⟩ := h.2 rfl
  simp only at h1 h2
  by_cases hc : takeB L (i, 0) 4 [44] = true
  · rw [wantS_zero, if_pos hc]
    rw [takeB_is L i 4 [44] (by decide)] at hc
    rw [rest_comma L (rs i) l rfl hc] at h1 h2
    have hgo : (rs i).go = rs (i + 1) := rfl
    rw [hgo] at h1 h2
    obtain ⟨g1, g2⟩ := wordE_sim L (i + 1) l
    have hn : nxT L (i + 1, 0) = tk L (i + 1) := by unfold nxT; rw [if_neg (by simp)]
    rw [← g1, hn]
    have hm := relW_mk L (i + 1) (wordE L (rs (i + 1)) l).1 (l ++ [(tk L (i + 1)).t]) (l ++ [(wordE L (rs (i + 1)) l).2]) (step_wordE L (rs (i + 1)) l) (fun e => by rw [g2 e])
    refine ⟨fun hz => ?_, fun hz => ?_⟩
    · rw [h1]; exact hm.1 hz
    · obtain ⟨m1, m2⟩ := hm.2 hz
      exact ⟨h1.trans m1, fun e => by rw [← h2 e]; exact m2 (by rw [← h1]; exact e)⟩
  · have hc' : isB L (rs i) 4 [44] = false := by rw [← takeB_is L i 4 [44] (by decide)]; simpa using hc
    rw [rest_end L (rs i) l hc'] at h1
    rw [want_sim L i 4 [41] (by decide), wantS_zero, if_neg (by simp [hb])] at h1
    rw [wantS_zero, if_neg hc]
    have hn : nameS L (i, 5) l = (i, 5) := by unfold nameS; rw [if_pos (by simp)]
    rw [hn]
    exact ⟨fun _ => h1, fun e => by simp at e⟩
theorem nameS_len (L : List Tok) (s : Nat × Int) (l : List (List UInt8)) (h : (nameS L s l).2 = 0) (h2 : s.2 = 0) : l.length ≠ 12 := by
  intro e
  unfold nameS at h
  rw [if_neg (by simp [h2])] at h
  split at h
  · rename_i hh
    unfold nameE at hh
    split at hh
    · cases hh
    · omega
  · rename_i hh; exact hh h
theorem nameS_zero (L : List Tok) (s : Nat × Int) (l : List (List UInt8)) (h : (nameS L s l).2 = 0) : s.2 = 0 := by
  by_cases e : s.2 = 0
  · exact e
  · unfold nameS at h; rw [if_pos e] at h; exact h
end Go.Proofs.YtjmipikahaoblaaGreatDoor.Syn
namespace Go.Proofs.YtjmipikahaoblaaGreatDoor.Syn
open Go.RowKit Go.Lib Go.Proofs.YtjmipikahaoblaaGreatDoor.Bas Go.Proofs.YtjmipikahaoblaaGreatDoor.Cal Go.Proofs.YtjmipikahaoblaaGreatDoor.Lx Go.Proofs.YtjmipikahaoblaaGreatDoor.Sc Go.Proofs.YtjmipikahaoblaaGreatDoor.Dk
set_option linter.unusedVariables false

/-- A name is read. -/
def NameOut (B d : Nat) (v : Value) (L : List Tk) (s : Nat × Int) (l : List (List UInt8)) (w : World) (e : Ending) (w' : World) : Prop :=
  e = .returned (.string (tx (nxT (toks L) s).t)) ∧ RdAt B w' d v L (nameS (toks L) s l) ∧ Kept d w w'
theorem nameS_eq (L : List Tok) (s : Nat × Int) (l : List (List UInt8)) : (((nxT L s).k ≠ 1 ∨ nameB (nxT L s).t = false) → nameS L s l = failS s 5) ∧ ((nxT L s).k = 1 → nameB (nxT L s).t = true → s.2 = 0 ∧ s.1 < L.length ∧ (l.length = 12 → nameS L s l = failS s 4) ∧
    (l.length ≠ 12 → (nxT L s).t ∈ l → nameS L s l = failS s 8) ∧ (l.length ≠ 12 → (nxT L s).t ∉ l → nameS L s l = goS s)) := by
  obtain ⟨i, er⟩ := s
  by_cases he : er = 0
  · subst he
    have hn : nxT L (i, 0) = tk L i := by unfold nxT; rw [if_neg (by simp)]
    have hS : nameS L (i, 0) l = if nameE (tk L i) l = 0 then goS (i, 0) else (i, nameE (tk L i) l) := by unfold nameS; rw [if_neg (by simp)]
    rw [hn, hS]
    refine ⟨fun h => ?_, fun h h' => ?_⟩
    · have e : nameE (tk L i) l = 5 := by unfold nameE; rw [if_pos h]
      rw [e, if_neg (by decide)]; rfl
    · have hz : ¬ ((tk L i).k ≠ 1 ∨ nameB (tk L i).t = false) := by simp [h, h']
      refine ⟨rfl, ?_, fun h2 => ?_, fun h2 h3 => ?_, fun h2 h3 => ?_⟩
      · by_cases hi : i < L.length
        · exact hi
        · rw [tk_out (by omega)] at h; cases h
      · have e : nameE (tk L i) l = 4 := by unfold nameE; rw [if_neg hz, if_pos h2]
        rw [e, if_neg (by decide)]; rfl
      · have e : nameE (tk L i) l = 8 := by unfold nameE; rw [if_neg hz, if_neg h2, if_pos h3]
        rw [e, if_neg (by decide)]; rfl
      · have e : nameE (tk L i) l = 0 := by unfold nameE; rw [if_neg hz, if_neg h2, if_neg h3]
        rw [e, if_pos rfl]
  · have hn : nxT L (i, er) = ⟨0, [], 0⟩ := by unfold nxT; rw [if_pos he]
    have hS : nameS L (i, er) l = (i, er) := by unfold nameS; rw [if_pos he]
    rw [hn, hS]
    exact ⟨fun _ => (failS_no he).symm, fun h => by cases h⟩
/-- slices.Contains over these strings. -/
theorem cont_any (p : Option Addr) (c : Nat) (l : List (List UInt8)) (x : List UInt8) (w : World) (hl : l.length ≤ 9223372036854775807) (h : StrsAt w (.slice p l.length c) l) :
    Calls Tryz.prog 129 #[.slice p l.length c, .string (tx x)] w (BoolSame (decide (x ∈ l)) w) := by
  obtain ⟨p', c', hv, _, hp⟩ := h
  obtain ⟨rfl, _, rfl⟩ := Value.slice.inj hv
  have := pcont_any p c l l.length x w (Nat.le_refl _) hl hp
  rwa [List.take_length] at this
set_option maxRecDepth 8000 in
set_option maxHeartbeats 8000000 in
theorem name_any (B d : Nat) (v : Value) (L : List Tk) (s : Nat × Int) (u : Value) (l : List (List UInt8)) (w : World) (h : RdAt B w d v L s) (hl : l.length ≤ 1000) (hU : StrsS (fun b => b ≠ d) w u l) :
    Calls Tryz.prog 170 #[.pointer (some ⟨d, 0, none⟩), u] w (NameOut B d v L s l w) := by
  have cN := Lib.hid (next_any B d v L s w h)
  have hlen : L.length ≤ 1000000 := Nat.le_trans h.len (by decide)
  obtain ⟨hE1, hE2⟩ := nameS_eq (toks L) s l
  rw [toks_len] at hE2
  have c2 := Lib.hid (fun x w h => fail_any B d v L s x w h)
  have U0 := Lib.hid hU
  obtain ⟨p, c, hu, _, _⟩ := hU
  subst hu
  have cC := Lib.hid (fun x w h => cont_any p c l x w (by omega) h)
  unfold NameOut
  have hE1' := Lib.hid hE1
  have hE2' := Lib.hid hE2
  generalize nameS (toks L) s l = s2 at *
  obtain ⟨x0, hx0⟩ : ∃ x, nxT (toks L) s = x := ⟨_, rfl⟩
  rw [hx0] at hE1' hE2' ⊢
  have hx0' := Lib.hid hx0
  obtain ⟨n, hn⟩ : ∃ n, l.length = n := ⟨_, rfl⟩
  rw [hn] at hl cC U0 hE2' ⊢
  clear hE1 hE2 h hx0 hn
  go_enter Tryz.func170, Tryz.ntmps170
  go_wp2_with fail
  refine cN.out.mono ?_; rintro e w1 ⟨x, rfl, hx, hR, hB, hxl⟩
  obtain rfl : tok x = x0 := hx.trans hx0'.out
  clear hx hx0'
  have al := alloc_at w1 (.cells #[.int .i64 x.k, .string (tx x.t), .int .i64 x.n, .int .i64 x.p] 71)
  have R2 := Lib.hid (hR.keep al)
  have K2 := Lib.hid ((Kept.of_below (d := d) hB).trans (Kept.of_below al))
  have U2 := Lib.hid ((U0.out.below hB).below al)
  have T2 := TkAt.new w1 x
  have hdb : d < w1.heap.size := Nat.lt_of_lt_of_le hR.lt hR.le
  clear hR hB cN al U0
  unfold tkV
  have hxk : (tok x).k = x.k := rfl
  have hxt : (tok x).t = x.t := rfl
  rw [hxk, hxt] at hE2' hE1'
  clear hxk hxt
  go_upto_region 3 with fail
  obtain ⟨b5, hb5⟩ : ∃ b, w1.heap.size = b := ⟨_, rfl⟩
  rw [hb5] at T2 hdb ⊢
  clear hb5
  generalize w1.alloc (.cells #[.int .i64 x.k, .string (tx x.t), .int .i64 x.n, .int .i64 x.p] 71) = W2 at *
  have hkeep := Lib.hid (fun (w' : World) (hK : Kept d W2 w') => cell_same (w' := w') T2.2.1.2.1 (fun h => hK.block b5 h (by omega)))
  obtain ⟨_, ⟨y0, y1, _, _⟩, _⟩ := T2
  have c1 := R2.out.c1
  have f1 := R2.out.f1
  have cN := Lib.hid (pname_tx x.t W2 hxl)
  by_cases h1 : x.k = 1
  · have t1 : (x.k == 1) = true := by simp [h1]
    have t1' : (x.k != 1) = false := by simp [h1]
    cases hb : nameB x.t with
    | true =>
      rw [hb] at cN
      obtain ⟨hs0, hs1, hF, hG, hH⟩ := hE2'.out h1 hb
      by_cases h2 : n = 12
      · have hs := Lib.hid (hF h2)
        have t2 : ((n : Int) == 12) = true := by simp; omega
        have t2' : (n == 12) = true := by simp; omega
        have cF := Lib.hid (c2.out 4 W2 R2.out)
        clear hF hG hH h1 hE1' hE2' c2 hb
        go_wp2_with fail
        refine cN.out.mono ?_; rintro e w' ⟨rfl, rfl⟩
        go_wp2_with fail
        refine cF.out.mono ?_; rintro e w2 ⟨u, rfl, hR2, hK2⟩
        have y3 := hkeep.out w2 hK2
        have R3 := Lib.hid hR2
        have K3 := Lib.hid (K2.out.trans hK2)
        clear hR2 hK2 y0 y1 c1 f1
        go_wp2_with fail
        go_ret
        exact ⟨rfl, by rw [hs.out]; exact R3.out, K3.out⟩
      · have t2 : ((n : Int) == 12) = false := by simp; omega
        have t2' : (n == 12) = false := by simp; omega
        have cCx := Lib.hid (cC.out x.t W2 U2.out.at)
        by_cases h3 : x.t ∈ l
        · rw [decide_eq_true h3] at cCx
          have hs := Lib.hid (hG h2 h3)
          have cF := Lib.hid (c2.out 8 W2 R2.out)
          clear hF hG hH h1 h2 h3 hE1' hE2' c2 hb
          go_wp2_with fail
          refine cN.out.mono ?_; rintro e w' ⟨rfl, rfl⟩
          go_wp2_with fail
          refine cCx.out.mono ?_; rintro e w' ⟨rfl, rfl⟩
          go_wp2_with fail
          refine cF.out.mono ?_; rintro e w2 ⟨u, rfl, hR2, hK2⟩
          have y3 := hkeep.out w2 hK2
          have R3 := Lib.hid hR2
          have K3 := Lib.hid (K2.out.trans hK2)
          clear hR2 hK2 y0 y1 c1 f1
          go_wp2_with fail
          go_ret
          exact ⟨rfl, by rw [hs.out]; exact R3.out, K3.out⟩
        · rw [decide_eq_false h3] at cCx
          have hs := Lib.hid (hH h2 h3)
          have R3 := Lib.hid (R2.out.go hs1)
          have y3 := hkeep.out _ (Kept.setD (w := W2) 1 (.int .i64 ((s.1 : Int) + 1)))
          have e2 : IntKind.i64.wrap ((s.1 : Int) + 1) = (s.1 : Int) + 1 := IntWalk.i64_in _ (by omega)
          clear hF hG hH h1 h2 h3 hE1' hE2' hs0 hb
          go_wp2_with fail
          refine cN.out.mono ?_; rintro e w' ⟨rfl, rfl⟩
          go_wp2_with fail
          refine cCx.out.mono ?_; rintro e w' ⟨rfl, rfl⟩
          go_wp2_with fail
          go_ret
          exact ⟨rfl, by rw [hs.out]; exact R3.out, K2.out.set 1 _⟩
    | false =>
      rw [hb] at cN
      have hs := Lib.hid (hE1'.out (.inr hb))
      have cF := Lib.hid (c2.out 5 W2 R2.out)
      clear h1 hE1' hE2' c2 hb
      go_wp2_with fail
      refine cN.out.mono ?_; rintro e w' ⟨rfl, rfl⟩
      go_wp2_with fail
      refine cF.out.mono ?_; rintro e w2 ⟨u, rfl, hR2, hK2⟩
      have y3 := hkeep.out w2 hK2
      have R3 := Lib.hid hR2
      have K3 := Lib.hid (K2.out.trans hK2)
      clear hR2 hK2 y0 y1 c1 f1
      go_wp2_with fail
      go_ret
      exact ⟨rfl, by rw [hs.out]; exact R3.out, K3.out⟩
  · have hs := Lib.hid (hE1'.out (.inl h1))
    have t1 : (x.k == 1) = false := by simpa using h1
    have t1' : (x.k != 1) = true := by simp [h1]
    have cF := Lib.hid (c2.out 5 W2 R2.out)
    clear h1 hE1' hE2' c2
    go_wp2_with fail
    refine cF.out.mono ?_; rintro e w2 ⟨u, rfl, hR2, hK2⟩
    have y3 := hkeep.out w2 hK2
    have R3 := Lib.hid hR2
    have K3 := Lib.hid (K2.out.trans hK2)
    clear hR2 hK2 y0 y1 c1 f1
    go_wp2_with fail
    go_ret
    exact ⟨rfl, by rw [hs.out]; exact R3.out, K3.out⟩
/-- A list of words is read. -/
def WordsOut (B d : Nat) (v : Value) (L : List Tk) (i : Nat) (w : World) (e : Ending) (w' : World) : Prop := ∃ u l, e = .returned u ∧ RdAt B w' d v L (sim (wordsR (toks L) (rs i)).1) ∧ ((wordsR (toks L) (rs i)).1.e = 0 → l = (wordsR (toks L) (rs i)).2) ∧ SRow w.heap.size w' u l ∧ Kept d w w'
theorem srow_kept {B d : Nat} {w w' : World} {v : Value} {l : List (List UInt8)} (h : SRow B w v l) (hK : Kept d w w') (hd : d < B) : SRow B w' v l :=
  own_block h fun g hg => by have := h.block g hg; exact hK.block g this.2 (by omega)
theorem srow_s {B d : Nat} {w : World} {v : Value} {l : List (List UInt8)} (h : SRow B w v l) (hd : d < B) : StrsS (fun b => b ≠ d) w v l := by
  have hlt := h.block
  rcases h.2 with ⟨rfl, h0⟩ | ⟨g, cap, cur, rfl, hb, hg, hnc, _⟩
  · exact ⟨none, 0, by rw [h0], ⟨by omega, fun _ => rfl⟩, fun h => by omega⟩
  · refine ⟨_, _, rfl, ⟨hnc, fun e => by cases e⟩, fun _ => ⟨g, 0, rfl, by show g ≠ d; omega, fun i hi => ?_⟩⟩
    have := sv_at l i hi
    rw [Nat.zero_add, World.ownsRow.cellAt h i (by omega)]
    exact this
theorem srow_form {B : Nat} {w : World} {v : Value} {l : List (List UInt8)} (h : SRow B w v l) : ∃ p c, v = .slice p l.length c := by
  rcases h.2 with ⟨rfl, e⟩ | ⟨g, cap, cur, rfl, _⟩
  · exact ⟨none, 0, by rw [e]⟩
  · exact ⟨_, cap, rfl⟩
theorem str_alloc (w : World) (t : List UInt8) : SRow w.heap.size (w.alloc (.cells #[.string (tx t)] 9)) (.slice (some ⟨w.heap.size, 0, none⟩) 1 1) [t] := srow_lit w.heap.size w [t] (Nat.le_refl _) (by simp)
def lenOf : Value → Nat
  | .slice _ n _ => n
  | _ => 0
set_option maxRecDepth 8000 in
set_option maxHeartbeats 16000000 in
theorem words_any (B d : Nat) (v : Value) (L : List Tk) (i : Nat) (w : World) (h : RdAt B w d v L (i, 0)) :
    Calls Tryz.prog 171 #[.pointer (some ⟨d, 0, none⟩)] w (WordsOut B d v L i w) := by
  have hdB := h.lt
  have hBw := h.le
  have c1 := Lib.hid (wantsMark_any B d v L (i, 0) [40] w h)
  have cN := Lib.hid (fun s u l w h hl hU => name_any B d v L s u l w h hl hU)
  have cM := Lib.hid (fun s w h => takesMark_any B d v L s [41] w h)
  have cW := Lib.hid (fun s w h => wantsMark_any B d v L s [44] w h)
  have hst := Lib.hid (relW_start (toks L) i)
  have hfin := Lib.hid (show ∀ (u : Value) (l : List (List UInt8)) (w' : World), RdAt B w' d v L (sim (wordsR (toks L) (rs i)).1) → ((sim (wordsR (toks L) (rs i)).1).2 = 0 → l = (wordsR (toks L) (rs i)).2) → SRow w.heap.size w' u l → Kept d w w' → WordsOut B d v L i w (.returned u) w' from fun u l w' h1 h2 h3 h4 => ⟨u, l, rfl, h1, fun e => h2 (sim_zero.2 e), h3, h4⟩)
  clear h
  obtain ⟨V, hV⟩ : ∃ V, (sim (wordsR (toks L) (rs i)).1, (wordsR (toks L) (rs i)).2) = V := ⟨_, rfl⟩
  rw [hV] at hst
  have hV1 : sim (wordsR (toks L) (rs i)).1 = V.1 := by rw [← hV]
  have hV2 : (wordsR (toks L) (rs i)).2 = V.2 := by rw [← hV]
  rw [hV1, hV2] at hfin
  clear hV hV1 hV2
  generalize wantS (toks L) (i, 0) 4 [40] = s1 at *
  have hl40 : tx [40] = { data := #[40] } := rfl
  have hl41 : tx [41] = { data := #[41] } := rfl
  have hl44 : tx [44] = { data := #[44] } := rfl
  rw [hl40] at c1
  rw [hl41] at cM
  rw [hl44] at cW
  clear hl40 hl41 hl44
  go_enter Tryz.func171, Tryz.ntmps171
  go_wp2_with fail
  refine c1.out.mono ?_; rintro e w1 ⟨_, rfl, hR, hK⟩
  have R1 := Lib.hid hR
  have K1 := Lib.hid hK
  have c2 := Lib.hid (cN.out s1 (.slice none 0 0) [] w1 hR (Nat.zero_le _) (strsS_nil _ _))
  clear hR hK c1
  go_wp2_with fail
  refine c2.out.mono ?_; rintro e w2 ⟨rfl, hR, hK⟩
  have hww := K1.out.size
  have hww2 := hK.size
  have al := alloc_at w2 (.cells #[.string (tx (nxT (toks L) s1).t)] 9)
  have R2 := Lib.hid (hR.keep al)
  have K2 := Lib.hid ((K1.out.trans hK).trans (Kept.of_below al))
  have S2 := Lib.hid ((str_alloc w2 (nxT (toks L) s1).t).mono (show w.heap.size ≤ w2.heap.size by omega))
  clear hR hK K1 R1 c2 al
  go_upto_region 3 with fail
  obtain ⟨b3, hb3⟩ : ∃ b, w2.heap.size = b := ⟨_, rfl⟩
  rw [hb3] at S2 ⊢
  clear hww2 hww hb3
  generalize w2.alloc (.cells #[.string (tx (nxT (toks L) s1).t)] 9) = W2 at *
  go_wp2_with fail
  go_loopw [3] (fun x3 wr => ∃ (s : Nat × Int) (l : List (List UInt8)), lenOf x3 = l.length ∧ l.length ≤ 13 ∧ (s.2 = 0 → l.length ≤ 12) ∧ Hid (RelW (toks L) s l V) ∧ Hid (RdAt B wr d v L s) ∧ Hid (SRow w.heap.size wr x3 l) ∧ Hid (Kept d w wr)) (fun x3 _ => 20 - lenOf x3)
  case atStart => exact ⟨_, [(nxT (toks L) s1).t], rfl, by simp, fun _ => by simp, hst, R2, S2, K2⟩
  case round =>
    obtain ⟨s, l, hlx, hl13, hl12, hV, hR, hS, hK⟩ := hrel
    obtain ⟨i', er⟩ := s
    have c2 := hR.out.c2
    simp only at c2
    by_cases he : er = 0
    · subst he
      have hl := hl12 rfl
      have cMx := Lib.hid (cM.out (i', 0) wr hR.out)
      unfold TakeOut at cMx
      have hcl := Lib.hid (fun h => relW_close (toks L) i' l V hV.out h)
      have hcm := Lib.hid (fun h => relW_comma (toks L) i' l V hV.out h)
      have htk := Lib.hid (show takeB (toks L) (i', 0) 4 [41] = false → takeS (toks L) (i', 0) 4 [41] = (i', 0) from fun h => by unfold takeS; rw [if_neg (by simp [h])])
      have htk2 := Lib.hid (show takeB (toks L) (i', 0) 4 [41] = true → takeS (toks L) (i', 0) 4 [41] = (i' + 1, 0) from fun h => by unfold takeS; rw [if_pos h]; rfl)
      generalize takeS (toks L) (i', 0) 4 [41] = s3 at *
      generalize takeB (toks L) (i', 0) 4 [41] = b at *
      clear hV hR hl12
      go_wp2_with fail
      refine cMx.out.mono ?_; rintro e w3 ⟨rfl, hR3, hK3⟩
      have K3 := Lib.hid (hK.out.trans hK3)
      have S3 := Lib.hid (srow_kept hS.out hK3 (by omega))
      have R3 := Lib.hid hR3
      clear hR3 hK3 hK hS cMx c2
      cases b with
      | true =>
        obtain ⟨v1, v2⟩ := hcl.out rfl
        have hf := Lib.hid (hfin.out u3 l w3 (by rw [v1, ← htk2.out rfl]; exact R3.out) (fun _ => v2) S3.out K3.out)
        clear v1 v2 hcl hcm htk htk2
        go_wp2_with fail
        go_ret
        exact hf.out
      | false =>
        rw [htk.out rfl] at R3
        have hrw := Lib.hid (hcm.out rfl)
        have cWx := Lib.hid (cW.out (i', 0) w3 R3.out)
        have hz := Lib.hid (fun h h2 => nameS_len (toks L) (wantS (toks L) (i', 0) 4 [44]) l h h2)
        have hz2 := Lib.hid (fun h => nameS_zero (toks L) (wantS (toks L) (i', 0) 4 [44]) l h)
        generalize wantS (toks L) (i', 0) 4 [44] = s4 at *
        clear hcl hcm htk htk2 R3
        go_wp2_with fail
        refine cWx.out.mono ?_; rintro e w4 ⟨_, rfl, hR4, hK4⟩
        have K4 := Lib.hid (K3.out.trans hK4)
        have S4 := Lib.hid (srow_kept S3.out hK4 (by omega))
        have cNx := Lib.hid (cN.out s4 u3 l w4 hR4 (by omega) (srow_s S4.out (by omega)))
        clear hR4 hK4 K3 S3 cWx
        go_wp2_with fail
        refine cNx.out.mono ?_; rintro e w5 ⟨rfl, hR5, hK5⟩
        have K5 := Lib.hid (K4.out.trans hK5)
        have S5 := Lib.hid (srow_kept S4.out hK5 (by omega))
        have R5 := Lib.hid hR5
        have hs5 := K5.out.size
        have hbl := Lib.hid S5.out.block
        clear hR5 hK5 K4 S4 cNx
        generalize hnx : (nxT (toks L) s4).t = tx4 at *
        go_wp2_with (at_builtin; refine wpList_append_str rfl (.tmp 21) (.tmp 25) rfl w.heap.size u3 l rfl S5.out tx4 rfl (by omega) (by omega) ?_; intro v6 w6 hown hgrow; refine Hid.out ?_)
        refine Lib.hid ?_
        have R6 := Lib.hid (R5.out.frame (fun b hb => hgrow.block b (by omega) (fun e => by have := (hbl.out b e.symm).1; omega)) hgrow.size)
        have K6 := Lib.hid (K5.out.grown hgrow (fun g hg => (hbl.out g hg).1))
        obtain ⟨p6, c6, hv6⟩ := srow_form hown
        have hlen6 : lenOf v6 = l.length + 1 := by rw [hv6]; show (l ++ [tx4]).length = _; simp
        have S6 := Lib.hid hown
        have hrw2 := hrw
        have h12 := Lib.hid (show (nameS (toks L) s4 l).2 = 0 → (l ++ [tx4]).length ≤ 12 from fun h => by
          have := hz.out h (hz2.out h)
          simp; omega)
        clear hown hgrow R5 K5 S5 hbl hs5 hnx hrw hz hz2
        subst hv6
        go_wp2_with fail
        go_roundw
        case rel => exact ⟨_, l ++ [tx4], rfl, by simp; omega, h12.out, hrw2, R6, S6, K6⟩
        case measure => simp only [hlx]; show 20 - (l ++ [tx4]).length < _; simp; omega
    · have t0 : (er == 0) = false := by simp [he]
      have hf := Lib.hid (hfin.out u3 l wr (by rw [hV.out.1 he]; exact hR.out) (fun e => absurd (by rw [hV.out.1 he] at e; exact e) he) hS.out hK.out)
      go_wp2_with fail
      go_ret
      exact hf.out
end Go.Proofs.YtjmipikahaoblaaGreatDoor.Syn
namespace Go.Proofs.YtjmipikahaoblaaGreatDoor.Syn
open Go.RowKit Go.Lib Go.Proofs.YtjmipikahaoblaaGreatDoor.Bas Go.Proofs.YtjmipikahaoblaaGreatDoor.Cal Go.Proofs.YtjmipikahaoblaaGreatDoor.Lx Go.Proofs.YtjmipikahaoblaaGreatDoor.Sc Go.Proofs.YtjmipikahaoblaaGreatDoor.Dk
set_option linter.unusedVariables false

/-- A variable of an expression, which is stored to. -/
structure XF (W : World) (b : Nat) (d : Nd) (u a : Value) : Prop where
  at_ : XAt W b d u a
  f0 : W.frozen? ⟨b, 0, none⟩ = false
  f1 : W.frozen? ⟨b, 1, none⟩ = false
  f2 : W.frozen? ⟨b, 2, none⟩ = false
  f3 : W.frozen? ⟨b, 3, none⟩ = false
  f4 : W.frozen? ⟨b, 4, none⟩ = false
  f5 : W.frozen? ⟨b, 5, none⟩ = false
theorem XF.new (w : World) (d : Nd) (u a : Value) : XF (w.alloc (xo d u a)) w.heap.size d u a :=
  ⟨XAt.new w d u a, by simp, by simp, by simp, by simp, by simp, by simp⟩
theorem XF.block {w w' : World} {b : Nat} {d : Nd} {u a : Value} (h : XF w b d u a) (hb : w'.heap[b]? = w.heap[b]?) (hs : w.heap.size ≤ w'.heap.size) : XF w' b d u a :=
  ⟨h.at_.block hb hs, by rw [World.frozen?_of_block (w := w) (a := ⟨b, 0, none⟩) hb]; exact h.f0, by rw [World.frozen?_of_block (w := w) (a := ⟨b, 1, none⟩) hb]; exact h.f1, by rw [World.frozen?_of_block (w := w) (a := ⟨b, 2, none⟩) hb]; exact h.f2,
    by rw [World.frozen?_of_block (w := w) (a := ⟨b, 3, none⟩) hb]; exact h.f3, by rw [World.frozen?_of_block (w := w) (a := ⟨b, 4, none⟩) hb]; exact h.f4, by rw [World.frozen?_of_block (w := w) (a := ⟨b, 5, none⟩) hb]; exact h.f5⟩
theorem XF.kept {w w' : World} {b d0 : Nat} {d : Nd} {u a : Value} (h : XF w b d u a) (hK : Kept d0 w w') (hb : b ≠ d0) : XF w' b d u a := h.block (hK.block b h.at_.1 hb) hK.size
theorem XF.keep {w w' : World} {b : Nat} {d : Nd} {u a : Value} (h : XF w b d u a) (hB : Below w.heap.size w w') : XF w' b d u a := h.block (hB.block b h.at_.1) hB.size
/-- The six stores of an expression. -/
def setEx (w : World) (b : Nat) (d : Nd) (u a : Value) : World := (((((w.setCell ⟨b, 0, none⟩ (.int .i64 d.op)).setCell ⟨b, 1, none⟩ (.string (tx d.nm))).setCell ⟨b, 2, none⟩ u).setCell ⟨b, 3, none⟩ (.int .i64 d.lo)).setCell ⟨b, 4, none⟩ (.int .i64 d.hi)).setCell ⟨b, 5, none⟩ a
theorem setEx_block (w : World) (b : Nat) (d : Nd) (u a : Value) (k : Nat) (h : k ≠ b) : (setEx w b d u a).heap[k]? = w.heap[k]? := by
  rw [setEx, setCell_block _ _ _ _ _ h, setCell_block _ _ _ _ _ h, setCell_block _ _ _ _ _ h, setCell_block _ _ _ _ _ h, setCell_block _ _ _ _ _ h, setCell_block _ _ _ _ _ h]
theorem setEx_size (w : World) (b : Nat) (d : Nd) (u a : Value) : (setEx w b d u a).heap.size = w.heap.size := by unfold setEx; simp
theorem sc_other (W : World) (b i j : Nat) (x v : Value) (hij : i ≠ j) (h : W.cell? ⟨b, i, none⟩ = some v) : (W.setCell ⟨b, j, none⟩ x).cell? ⟨b, i, none⟩ = some v := by
  rw [World.cell?_setCell_other _ _ _ _ (by intro e; simp only [Addr.mk.injEq] at e; omega)]; exact h
theorem sc_same (W : World) (b i : Nat) (x v : Value) (h : W.cell? ⟨b, i, none⟩ = some v) : (W.setCell ⟨b, i, none⟩ x).cell? ⟨b, i, none⟩ = some x := World.cell?_setCell_same _ _ _ h
theorem XF.set {w : World} {b : Nat} {d : Nd} {u a : Value} (h : XF w b d u a) (d' : Nd) (u' a' : Value) : XAt (setEx w b d' u' a') b d' u' a' := by
  obtain ⟨h0, h1, h2, h3, h4, h5, h6⟩ := h.at_
  have g1 := sc_same w b 0 (.int .i64 d'.op) _ h1
  have g2 := sc_other w b 1 0 (.int .i64 d'.op) _ (by decide) h2
  have g3 := sc_other w b 2 0 (.int .i64 d'.op) _ (by decide) h3
  have g4 := sc_other w b 3 0 (.int .i64 d'.op) _ (by decide) h4
  have g5 := sc_other w b 4 0 (.int .i64 d'.op) _ (by decide) h5
  have g6 := sc_other w b 5 0 (.int .i64 d'.op) _ (by decide) h6
  have hz : b < (w.setCell ⟨b, 0, none⟩ (.int .i64 d'.op)).heap.size := by simpa using h0
  unfold setEx
  clear h1 h2 h3 h4 h5 h6 h h0
  generalize w.setCell ⟨b, 0, none⟩ (.int .i64 d'.op) = w1 at *
  have h1 := sc_other w1 b 0 1 (.string (tx d'.nm)) _ (by decide) g1
  have h2 := sc_same w1 b 1 (.string (tx d'.nm)) _ g2
  have h3 := sc_other w1 b 2 1 (.string (tx d'.nm)) _ (by decide) g3
  have h4 := sc_other w1 b 3 1 (.string (tx d'.nm)) _ (by decide) g4
  have h5 := sc_other w1 b 4 1 (.string (tx d'.nm)) _ (by decide) g5
  have h6 := sc_other w1 b 5 1 (.string (tx d'.nm)) _ (by decide) g6
  have h0 : b < (w1.setCell ⟨b, 1, none⟩ (.string (tx d'.nm))).heap.size := by simpa using hz
  clear g1 g2 g3 g4 g5 g6 hz
  generalize w1.setCell ⟨b, 1, none⟩ (.string (tx d'.nm)) = w2 at *
  have g1 := sc_other w2 b 0 2 u' _ (by decide) h1
  have g2 := sc_other w2 b 1 2 u' _ (by decide) h2
  have g3 := sc_same w2 b 2 u' _ h3
  have g4 := sc_other w2 b 3 2 u' _ (by decide) h4
  have g5 := sc_other w2 b 4 2 u' _ (by decide) h5
  have g6 := sc_other w2 b 5 2 u' _ (by decide) h6
  have hz : b < (w2.setCell ⟨b, 2, none⟩ u').heap.size := by simpa using h0
  clear h1 h2 h3 h4 h5 h6 h0
  generalize w2.setCell ⟨b, 2, none⟩ u' = w3 at *
  have h1 := sc_other w3 b 0 3 (.int .i64 d'.lo) _ (by decide) g1
  have h2 := sc_other w3 b 1 3 (.int .i64 d'.lo) _ (by decide) g2
  have h3 := sc_other w3 b 2 3 (.int .i64 d'.lo) _ (by decide) g3
  have h4 := sc_same w3 b 3 (.int .i64 d'.lo) _ g4
  have h5 := sc_other w3 b 4 3 (.int .i64 d'.lo) _ (by decide) g5
  have h6 := sc_other w3 b 5 3 (.int .i64 d'.lo) _ (by decide) g6
  have h0 : b < (w3.setCell ⟨b, 3, none⟩ (.int .i64 d'.lo)).heap.size := by simpa using hz
  clear g1 g2 g3 g4 g5 g6 hz
  generalize w3.setCell ⟨b, 3, none⟩ (.int .i64 d'.lo) = w4 at *
  have g1 := sc_other w4 b 0 4 (.int .i64 d'.hi) _ (by decide) h1
  have g2 := sc_other w4 b 1 4 (.int .i64 d'.hi) _ (by decide) h2
  have g3 := sc_other w4 b 2 4 (.int .i64 d'.hi) _ (by decide) h3
  have g4 := sc_other w4 b 3 4 (.int .i64 d'.hi) _ (by decide) h4
  have g5 := sc_same w4 b 4 (.int .i64 d'.hi) _ h5
  have g6 := sc_other w4 b 5 4 (.int .i64 d'.hi) _ (by decide) h6
  have hz : b < (w4.setCell ⟨b, 4, none⟩ (.int .i64 d'.hi)).heap.size := by simpa using h0
  clear h1 h2 h3 h4 h5 h6 h0
  generalize w4.setCell ⟨b, 4, none⟩ (.int .i64 d'.hi) = w5 at *
  have hz' : b < (w5.setCell ⟨b, 5, none⟩ a').heap.size := by simpa using hz
  exact ⟨hz', sc_other w5 b 0 5 a' _ (by decide) g1, sc_other w5 b 1 5 a' _ (by decide) g2, sc_other w5 b 2 5 a' _ (by decide) g3, sc_other w5 b 3 5 a' _ (by decide) g4, sc_other w5 b 4 5 a' _ (by decide) g5, sc_same w5 b 5 a' _ g6⟩
theorem kept_sc {d0 b : Nat} {a w : World} (h : Kept d0 a w) (hb : a.heap.size ≤ b) (o : Nat) (u : Value) : Kept d0 a (w.setCell ⟨b, o, none⟩ u) :=
  ⟨h.os, h.tape, h.output, by simpa using h.size, fun k hk hd => (setCell_block w b o k u (by omega)).trans (h.block k hk hd)⟩
theorem kept_setEx {d0 b : Nat} {a w : World} (h : Kept d0 a w) (hb : a.heap.size ≤ b) (d : Nd) (u v : Value) : Kept d0 a (setEx w b d u v) := by
  unfold setEx
  exact kept_sc (kept_sc (kept_sc (kept_sc (kept_sc (kept_sc h hb _ _) hb _ _) hb _ _) hb _ _) hb _ _) hb _ _
theorem RdAt.setEx {B b : Nat} {w : World} {d : Nat} {v : Value} {L : List Tk} {s : Nat × Int} (h : RdAt B w d v L s) (hb : B ≤ b) (x : Nd) (u a : Value) : RdAt B (setEx w b x u a) d v L s :=
  h.frame (fun k hk => setEx_block _ _ _ _ _ _ (by omega)) (by rw [setEx_size]; exact Nat.le_refl _)
/-- An expression of any kind, as a value. -/
def IsEx (v : Value) : Prop := ∃ (d : Nd) (q1 q2 : Option Addr) (n1 c1 n2 c2 : Nat), v = exV d (.slice q1 n1 c1) (.slice q2 n2 c2)
theorem ExS.is {S : Nat → Prop} {w : World} {v : Value} {e : Ex} (h : ExS S w v e) : IsEx v := by
  obtain ⟨u, a, rfl, ⟨q1, k1, rfl, _⟩, ⟨q2, k2, rfl, _⟩⟩ := h
  exact ⟨e.d, q1, q2, _, k1, _, k2, rfl⟩
/-- An expression is read: what the reference's reader X returns. -/
def RdOut (B d : Nat) (v : Value) (L : List Tk) (X : Rs × Ex) (w : World) (e : Ending) (w' : World) : Prop := ∃ u, e = .returned u ∧ RdAt B w' d v L (sim X.1) ∧ (X.1.e = 0 → ExS (fun b => w.heap.size ≤ b) w' u X.2) ∧ IsEx u ∧ Kept d w w'
theorem ex_leaf (S : Nat → Prop) (w : World) (d : Nd) (h : d.ws = []) : ExS S w (exV d (.slice none 0 0) (.slice none 0 0)) ⟨d, .nil⟩ := ⟨_, _, rfl, by rw [h]; exact strsS_nil _ _, foS_nil _ _⟩
abbrev zx : Obj := xo n0 (.slice none 0 0) (.slice none 0 0)
end Go.Proofs.YtjmipikahaoblaaGreatDoor.Syn
