/- Plain arithmetic of the method of the largest remainder. No program is named here. -/
import Derived.Lib.Hide
namespace Go.Proofs.YtdehldcgakdobaaGreatDoor.Spl
set_option linter.unusedVariables false

/-- f 0 + .. + f (n - 1). -/
def S (f : Nat → Nat) : Nat → Nat
  | 0 => 0
  | n + 1 => S f n + f n
theorem S_congr {f g : Nat → Nat} {n : Nat} (h : ∀ i, i < n → f i = g i) : S f n = S g n := by
  induction n with
  | zero => rfl
  | succ n ih => simp only [S]; rw [ih fun i hi => h i (by omega), h n (by omega)]
theorem S_mono {f g : Nat → Nat} {n : Nat} (h : ∀ i, i < n → f i ≤ g i) : S f n ≤ S g n := by
  induction n with
  | zero => exact Nat.le_refl _
  | succ n ih => simp only [S]; have := ih fun i hi => h i (by omega); have := h n (by omega); omega
theorem S_add (f g : Nat → Nat) (n : Nat) : S (fun i => f i + g i) n = S f n + S g n := by
  induction n with
  | zero => rfl
  | succ n ih => simp only [S]; omega
theorem S_mul (f : Nat → Nat) (c n : Nat) : S (fun i => f i * c) n = S f n * c := by
  induction n with
  | zero => simp [S]
  | succ n ih => simp only [S]; rw [ih, Nat.add_mul]
theorem S_const (c n : Nat) : S (fun _ => c) n = n * c := by
  induction n with
  | zero => simp [S]
  | succ n ih => simp only [S]; rw [ih, Nat.add_mul]; omega
theorem S_le_const {f : Nat → Nat} {c n : Nat} (h : ∀ i, i < n → f i ≤ c) : S f n ≤ n * c := by
  rw [← S_const c n]; exact S_mono h
theorem S_one_le {f : Nat → Nat} {n i : Nat} (h : i < n) : f i ≤ S f n := by
  induction n with
  | zero => omega
  | succ n ih =>
    simp only [S]
    rcases Nat.lt_or_ge i n with h1 | h1
    · have := ih h1; omega
    · obtain rfl : i = n := by omega
      omega
theorem S_le_succ (f : Nat → Nat) (n : Nat) : S f n ≤ S f (n + 1) := by simp only [S]; omega
theorem S_le_of_le {f : Nat → Nat} {m n : Nat} (h : m ≤ n) : S f m ≤ S f n := by
  induction h with
  | refl => exact Nat.le_refl _
  | step _ ih => exact Nat.le_trans ih (S_le_succ f _)
theorem S_countP (p : Nat → Bool) (n : Nat) : S (fun i => if p i then 1 else 0) n = (List.range n).countP p := by
  induction n with
  | zero => rfl
  | succ n ih =>
    rw [List.range_succ, List.countP_append, ← ih]
    simp [S, List.countP_cons]

/-! ### The order of the remainders -/
/-- j is served before i. -/
def bet (r : Nat → Nat) (j i : Nat) : Bool := decide (r i < r j) || (decide (r j = r i) && decide (j < i))
theorem bet_iff (r : Nat → Nat) (j i : Nat) : bet r j i = true ↔ (r i < r j ∨ (r j = r i ∧ j < i)) := by simp [bet]
/-- The place of i in the order. -/
def rk (r : Nat → Nat) (n i : Nat) : Nat := S (fun j => if bet r j i then 1 else 0) n

theorem rk_sorted (r : Nat → Nat) (n : Nat) (o : List Nat) (hp : o.Perm (List.range n)) (hs : o.Pairwise (fun x y => bet r x y = true)) (k : Nat) (hk : k < o.length) :
    rk r n o[k] = k := by
  unfold rk
  rw [S_countP, ← hp.countP_eq]
  have e : o = o.take k ++ o[k] :: o.drop (k + 1) := by rw [List.getElem_cons_drop, List.take_append_drop]
  generalize hx : o[k] = x at *
  have hs' := hs
  rw [e, List.pairwise_append] at hs'
  obtain ⟨h1, h2, h3⟩ := hs'
  rw [List.pairwise_cons] at h2
  rw [e, List.countP_append, List.countP_cons]
  have a1 : (o.take k).countP (fun j => bet r j x) = k := by
    rw [List.countP_eq_length.2 fun a ha => h3 a ha x (by simp)]
    rw [List.length_take]; omega
  have a2 : (o.drop (k + 1)).countP (fun j => bet r j x) = 0 := by
    rw [List.countP_eq_zero]
    intro a ha hb
    have h4 := h2.1 a ha
    rw [bet_iff] at h4 hb
    omega
  have a3 : bet r x x = false := by
    rw [Bool.eq_false_iff]; intro h; rw [bet_iff] at h; omega
  rw [a1, a2, a3]; simp

theorem rk_sorted' (r : Nat → Nat) (n : Nat) (o : List Nat) (hp : o.Perm (List.range n)) (hs : o.Pairwise (fun x y => bet r x y = true)) : o.map (rk r n) = List.range n := by
  have hl : o.length = n := by rw [hp.length_eq]; simp
  apply List.ext_getElem
  · simp [hl]
  · intro k h1 h2
    rw [List.getElem_map, List.getElem_range, rk_sorted r n o hp hs k (by simpa using h1)]

/-- There is such an order. -/
theorem has_order (r : Nat → Nat) (n : Nat) : ∃ o : List Nat, o.Perm (List.range n) ∧ o.Pairwise (fun x y => bet r x y = true) := by
  refine ⟨(List.range n).mergeSort (fun x y => !bet r y x), List.mergeSort_perm _ _, ?_⟩
  have h1 := List.pairwise_mergeSort (le := fun x y => !bet r y x)
    (fun a b c h1 h2 => by
      simp only [Bool.not_eq_true', Bool.eq_false_iff] at *
      intro h
      have g1 : ¬ (r a < r b ∨ (r b = r a ∧ b < a)) := fun x => h1 ((bet_iff r b a).2 x)
      have g2 : ¬ (r b < r c ∨ (r c = r b ∧ c < b)) := fun x => h2 ((bet_iff r c b).2 x)
      have g3 := (bet_iff r c a).1 h
      omega)
    (fun a b => by
      cases h : bet r b a with
      | false => simp
      | true =>
        cases h' : bet r a b with
        | false => simp
        | true => rw [bet_iff] at *; omega) (List.range n)
  have h2 : ((List.range n).mergeSort (fun x y => !bet r y x)).Nodup := (List.mergeSort_perm _ _).nodup_iff.2 List.nodup_range
  refine (List.Pairwise.and h1 h2).imp fun {a b} ⟨h3, h4⟩ => ?_
  simp only [Bool.not_eq_true', Bool.eq_false_iff, ne_eq] at h3
  rw [bet_iff] at *
  omega

theorem rk_perm (r : Nat → Nat) (n : Nat) : ((List.range n).map (rk r n)).Perm (List.range n) := by
  obtain ⟨o, hp, hs⟩ := has_order r n
  have := rk_sorted' r n o hp hs
  have h2 := hp.map (rk r n)
  rw [this] at h2
  exact h2.symm
theorem rk_lt (r : Nat → Nat) (n i : Nat) (h : i < n) : rk r n i < n := by
  have : rk r n i ∈ List.range n := (rk_perm r n).subset (List.mem_map.2 ⟨i, by simpa using h, rfl⟩)
  simpa using this
theorem rk_has (r : Nat → Nat) (n t : Nat) (h : t < n) : ∃ i, i < n ∧ rk r n i = t := by
  have : t ∈ (List.range n).map (rk r n) := (rk_perm r n).symm.subset (by simpa using h)
  obtain ⟨i, hi, e⟩ := List.mem_map.1 this
  exact ⟨i, by simpa using hi, e⟩
theorem rk_bet {r : Nat → Nat} {n i j : Nat} (hj : j < n) (h : bet r j i = true) : rk r n j < rk r n i := by
  unfold rk
  have : ∀ m, m ≤ n → S (fun k => if bet r k j then 1 else 0) m + (if j < m then 1 else 0) ≤ S (fun k => if bet r k i then 1 else 0) m := by
    intro m
    induction m with
    | zero => intro _; simp [S]
    | succ m ih =>
      intro hm
      have := ih (by omega)
      simp only [S]
      rcases Nat.lt_trichotomy j m with h1 | h1 | h1
      · rw [if_pos h1] at this; rw [if_pos (show j < m + 1 by omega)]
        by_cases hb : bet r m j = true
        · have : bet r m i = true := by rw [bet_iff] at *; omega
          rw [if_pos hb, if_pos this]; omega
        · rw [if_neg hb]; omega
      · subst h1
        rw [if_neg (show ¬ j < j by omega)] at this; rw [if_pos (show j < j + 1 by omega), if_pos h]
        have : ¬ bet r j j = true := by rw [bet_iff]; omega
        rw [if_neg this]; omega
      · rw [if_neg (show ¬ j < m by omega)] at this; rw [if_neg (show ¬ j < m + 1 by omega)]
        by_cases hb : bet r m j = true
        · have : bet r m i = true := by rw [bet_iff] at *; omega
          rw [if_pos hb, if_pos this]; omega
        · rw [if_neg hb]; omega
  have := this n (Nat.le_refl _)
  rw [if_pos hj] at this
  omega
theorem bet_tot (r : Nat → Nat) (i j : Nat) (h : i ≠ j) : bet r i j = true ∨ bet r j i = true := by
  rw [bet_iff, bet_iff]; omega
theorem rk_inj {r : Nat → Nat} {n i j : Nat} (hi : i < n) (hj : j < n) (h : rk r n i = rk r n j) : i = j := by
  rcases Decidable.em (i = j) with h1 | h1
  · exact h1
  · rcases bet_tot r i j h1 with h2 | h2
    · have := rk_bet hi h2; omega
    · have := rk_bet hj h2; omega
theorem bet_of_rk {r : Nat → Nat} {n i j : Nat} (hi : i < n) (hj : j < n) (h : rk r n j < rk r n i) : bet r j i = true := by
  rcases bet_tot r i j (fun e => by subst e; omega) with h2 | h2
  · have := rk_bet hi h2; omega
  · exact h2
theorem count_below (t n : Nat) (h : t ≤ n) : (List.range n).countP (fun i => decide (i < t)) = t := by
  rw [← S_countP]
  have : ∀ m, S (fun i => if decide (i < t) = true then 1 else 0) m = min m t := by
    intro m
    induction m with
    | zero => simp [S]
    | succ m ih => simp only [S]; rw [ih]; by_cases hh : m < t <;> simp [hh] <;> omega
  rw [this]; omega
theorem rk_count (r : Nat → Nat) (t n : Nat) (h : t ≤ n) : S (fun i => if rk r n i < t then 1 else 0) n = t := by
  have e : (fun i => if rk r n i < t then 1 else 0) = fun i => if (fun i => decide (rk r n i < t)) i then 1 else 0 := by funext i; simp
  rw [e, S_countP]
  have := (rk_perm r n).countP_eq (fun i => decide (i < t))
  rw [List.countP_map, count_below t n h] at this
  exact this

/-! ### The parts -/
def wt (l : List Nat) (i : Nat) : Nat := l.getD i 0
/-- The sum of the weights. -/
def W (l : List Nat) : Nat := S (wt l) l.length
def qu (a : Nat) (l : List Nat) (i : Nat) : Nat := a * wt l i / W l
def re (a : Nat) (l : List Nat) (i : Nat) : Nat := a * wt l i % W l
def lef (a : Nat) (l : List Nat) : Nat := a - S (qu a l) l.length
/-- Part i when t units have been given out. -/
def pt (a : Nat) (l : List Nat) (t i : Nat) : Nat := qu a l i + if rk (re a l) l.length i < t then 1 else 0
def part (a : Nat) (l : List Nat) (i : Nat) : Nat := pt a l (lef a l) i
def parts (a : Nat) (l : List Nat) : List Nat := (List.range l.length).map (part a l)

theorem re_lt (a : Nat) (l : List Nat) (i : Nat) (h : 0 < W l) : re a l i < W l := Nat.mod_lt _ h
theorem qr (a : Nat) (l : List Nat) (i : Nat) : qu a l i * W l + re a l i = a * wt l i := Nat.div_add_mod' _ _
theorem sum_qr (a : Nat) (l : List Nat) : S (qu a l) l.length * W l + S (re a l) l.length = a * W l := by
  have h : S (fun i => qu a l i * W l + re a l i) l.length = S (fun i => wt l i * a) l.length := S_congr fun i _ => by rw [qr, Nat.mul_comm]
  rw [S_add, S_mul, S_mul] at h
  rw [h, Nat.mul_comm]; rfl
theorem sum_q (a : Nat) (l : List Nat) (h : 0 < W l) : S (qu a l) l.length ≤ a := by
  have := sum_qr a l
  exact Nat.le_of_mul_le_mul_right (by omega : S (qu a l) l.length * W l ≤ a * W l) h
theorem lef_mul (a : Nat) (l : List Nat) (h : 0 < W l) : lef a l * W l = S (re a l) l.length := by
  have h1 := sum_qr a l
  have h2 := sum_q a l h
  unfold lef
  rw [Nat.sub_mul]; omega
/-- The number of the remainders that are not 0. -/
def pos (a : Nat) (l : List Nat) : Nat := S (fun i => if 0 < re a l i then 1 else 0) l.length
theorem lef_pos (a : Nat) (l : List Nat) (h : 0 < W l) : lef a l = 0 ∨ lef a l < pos a l := by
  have h1 := lef_mul a l h
  have h2 : S (re a l) l.length + pos a l ≤ pos a l * W l := by
    unfold pos
    rw [← S_add, ← S_mul]
    refine S_mono fun i _ => ?_
    have := re_lt a l i h
    by_cases hh : 0 < re a l i
    · rw [if_pos hh]; omega
    · rw [if_neg hh]; omega
  rcases Nat.eq_zero_or_pos (lef a l) with h3 | h3
  · exact Or.inl h3
  · right
    have h4 : 0 < lef a l * W l := Nat.mul_pos h3 h
    have h5 : 0 < pos a l := by
      rcases Nat.eq_zero_or_pos (pos a l) with h6 | h6
      · rw [h6] at h2; omega
      · exact h6
    exact Nat.lt_of_mul_lt_mul_right (by omega : lef a l * W l < pos a l * W l)
theorem pos_le (a : Nat) (l : List Nat) : pos a l ≤ l.length := by
  have : pos a l ≤ l.length * 1 := S_le_const fun i _ => by split <;> omega
  omega
theorem lef_le (a : Nat) (l : List Nat) (h : 0 < W l) : lef a l ≤ l.length := by
  have := lef_pos a l h; have := pos_le a l; omega
theorem lef_lt (a : Nat) (l : List Nat) (h : 0 < W l) (hl : 0 < l.length) : lef a l < l.length := by
  have := lef_pos a l h; have := pos_le a l; omega
/-- Who is served has a remainder. -/
theorem served (a : Nat) (l : List Nat) (h : 0 < W l) (i : Nat) (hi : rk (re a l) l.length i < lef a l) : 0 < re a l i := by
  rcases Nat.eq_zero_or_pos (re a l i) with h0 | h0
  · have : pos a l ≤ rk (re a l) l.length i := by
      refine S_mono fun j _ => ?_
      by_cases hj : 0 < re a l j
      · rw [if_pos hj, if_pos (by rw [bet_iff]; omega)]; exact Nat.le_refl _
      · rw [if_neg hj]; omega
    have := lef_pos a l h
    omega
  · exact h0
theorem parts_sum (a : Nat) (l : List Nat) (h : 0 < W l) : S (part a l) l.length = a := by
  have h1 := sum_q a l h
  have h2 := rk_count (re a l) (lef a l) l.length (lef_le a l h)
  have h3 : S (part a l) l.length = S (qu a l) l.length + S (fun i => if rk (re a l) l.length i < lef a l then 1 else 0) l.length := S_add _ _ _
  rw [h3, h2]; unfold lef; omega
theorem part_zero (a : Nat) (l : List Nat) (h : 0 < W l) (i : Nat) (hi : wt l i = 0) : part a l i = 0 := by
  have h1 : re a l i = 0 := by unfold re; rw [hi]; simp
  have h2 : qu a l i = 0 := by unfold qu; rw [hi]; simp
  unfold part pt
  rw [h2, if_neg]
  intro h3
  have := served a l h i h3
  omega
theorem part_two (a : Nat) (l : List Nat) (h : 0 < W l) (i : Nat) : part a l i * W l < a * wt l i + W l ∧ a * wt l i < part a l i * W l + W l := by
  have h1 := qr a l i
  have h2 := re_lt a l i h
  unfold part pt
  by_cases hh : rk (re a l) l.length i < lef a l
  · have := served a l h i hh
    rw [if_pos hh, Nat.add_mul]; omega
  · rw [if_neg hh, Nat.add_zero]; omega
theorem part_le (a : Nat) (l : List Nat) (h : 0 < W l) (i : Nat) : part a l i ≤ qu a l i + 1 := by
  unfold part pt; split <;> omega
theorem qu_le (a : Nat) (l : List Nat) (i : Nat) (hi : i < l.length) : qu a l i ≤ a := by
  unfold qu
  have : wt l i ≤ W l := S_one_le hi
  rcases Nat.eq_zero_or_pos (W l) with h | h
  · rw [h, Nat.div_zero]; omega
  · exact Nat.div_le_of_le_mul (by rw [Nat.mul_comm]; exact Nat.mul_le_mul_right _ this)
theorem part_le' (a : Nat) (l : List Nat) (h : 0 < W l) (i : Nat) (hi : i < l.length) : part a l i ≤ a := by
  have := parts_sum a l h
  have h1 : part a l i ≤ S (part a l) l.length := S_one_le hi
  omega
/-- A part of what is less than the sum is at most the weight. -/
theorem part_cap (a : Nat) (l : List Nat) (h : a < W l) (i : Nat) : part a l i ≤ wt l i := by
  have hW : 0 < W l := by omega
  rcases Nat.eq_zero_or_pos (wt l i) with h0 | h0
  · rw [part_zero a l hW i h0]; omega
  · have := part_le a l hW i
    have : qu a l i < wt l i := by
      unfold qu
      refine Nat.div_lt_of_lt_mul ?_
      exact Nat.mul_lt_mul_of_pos_right h h0
    omega

/-! ### Scaled weights, equal weights -/
theorem wt_map (l : List Nat) (c i : Nat) : wt (l.map (· * c)) i = wt l i * c := by
  unfold wt
  rw [List.getD_eq_getElem?_getD, List.getD_eq_getElem?_getD, List.getElem?_map]
  cases l[i]? <;> simp
theorem W_map (l : List Nat) (c : Nat) : W (l.map (· * c)) = W l * c := by
  unfold W
  rw [List.length_map, ← S_mul]
  exact S_congr fun i _ => wt_map l c i
theorem qu_map (a : Nat) (l : List Nat) (c i : Nat) (h : 0 < c) : qu a (l.map (· * c)) i = qu a l i := by
  unfold qu
  rw [wt_map, W_map, ← Nat.mul_assoc, Nat.mul_div_mul_right _ _ h]
theorem re_map (a : Nat) (l : List Nat) (c i : Nat) : re a (l.map (· * c)) i = re a l i * c := by
  unfold re
  rw [wt_map, W_map, ← Nat.mul_assoc, Nat.mul_mod_mul_right]
theorem bet_map (r : Nat → Nat) (c : Nat) (h : 0 < c) (j i : Nat) : bet (fun k => r k * c) j i = bet r j i := by
  rw [Bool.eq_iff_iff, bet_iff, bet_iff]
  have h1 : r i * c < r j * c ↔ r i < r j := Nat.mul_lt_mul_right h
  have h2 : r j * c = r i * c ↔ r j = r i := ⟨fun e => Nat.eq_of_mul_eq_mul_right h e, fun e => by rw [e]⟩
  rw [h1, h2]
theorem parts_map (a : Nat) (l : List Nat) (c : Nat) (h : 0 < c) : parts a (l.map (· * c)) = parts a l := by
  have e1 : qu a (l.map (· * c)) = qu a l := funext fun i => qu_map a l c i h
  have e2 : re a (l.map (· * c)) = fun k => re a l k * c := funext fun i => re_map a l c i
  have e3 : ∀ n i, rk (fun k => re a l k * c) n i = rk (re a l) n i := fun n i => by
    unfold rk; refine S_congr fun j _ => ?_; rw [bet_map _ c h]
  unfold parts part pt lef
  rw [e1, e2, List.length_map]
  simp only [e3]
theorem wt_rep (n x i : Nat) (h : i < n) : wt (List.replicate n x) i = x := by
  unfold wt
  rw [List.getD_eq_getElem?_getD, List.getElem?_replicate, if_pos h]; rfl
theorem rk_even (a n x i : Nat) (h : i < n) : rk (re a (List.replicate n x)) n i = i := by
  unfold rk
  have : S (fun j => if bet (re a (List.replicate n x)) j i = true then 1 else 0) n = S (fun j => if (fun j => decide (j < i)) j = true then 1 else 0) n := by
    refine S_congr fun j hj => ?_
    have e1 : re a (List.replicate n x) j = re a (List.replicate n x) i := by unfold re; rw [wt_rep n x j hj, wt_rep n x i h]
    have e2 : bet (re a (List.replicate n x)) j i = decide (j < i) := by
      rw [Bool.eq_iff_iff, bet_iff, e1]; simp
    rw [e2]
  rw [this, S_countP, count_below i n (by omega)]
theorem part_even (a n x i : Nat) (h : i < n) : part a (List.replicate n x) i = qu a (List.replicate n x) 0 + if i < lef a (List.replicate n x) then 1 else 0 := by
  unfold part pt
  rw [List.length_replicate, rk_even a n x i h]
  have : qu a (List.replicate n x) i = qu a (List.replicate n x) 0 := by unfold qu; rw [wt_rep n x i h, wt_rep n x 0 (by omega)]
  rw [this]
end Go.Proofs.YtdehldcgakdobaaGreatDoor.Spl
