/- Exchange's plain mathematics: the errors of a table, the rate of an hour, sums by currency, balances. -/
import Derived.Test.YtcdfedkcefhdiaaNat
namespace Go.Proofs.Ytcdfedkcefhdiaa.Exc
open Go.Proofs.Ytcdfedkcefhdiaa.Spl
set_option linter.unusedVariables false

/-- A rate: its currency, the hour from which it is, its millionths. An amount in a currency. -/
structure Rt where
  c : Int
  f : Int
  p : Int
structure Cs where
  c : Int
  a : Int
def rt (l : List Rt) (i : Nat) : Rt := l.getD i ⟨0, 0, 0⟩
def cs (l : List Cs) (i : Nat) : Cs := l.getD i ⟨0, 0⟩
theorem rt_at (l : List Rt) (i : Nat) (h : i < l.length) : rt l i = l[i] := by simp [rt, List.getD_eq_getElem?_getD, h]
theorem cs_at (l : List Cs) (i : Nat) (h : i < l.length) : cs l i = l[i] := by simp [cs, List.getD_eq_getElem?_getD, h]
theorem rt_append (l r : List Rt) (i : Nat) (h : i < l.length) : rt (l ++ r) i = rt l i := by
  rw [rt_at _ _ (by simp; omega), rt_at _ _ h]; exact List.getElem_append_left h
theorem cs_append (l r : List Cs) (i : Nat) (h : i < l.length) : cs (l ++ r) i = cs l i := by
  rw [cs_at _ _ (by simp; omega), cs_at _ _ h]; exact List.getElem_append_left h

/-- The first number that is not 0 among the first n. -/
def fst0 (e : Nat → Int) : Nat → Int
  | 0 => 0
  | n + 1 => if fst0 e n = 0 then e n else fst0 e n
theorem fst0_zero (e : Nat → Int) (n : Nat) : fst0 e n = 0 ↔ ∀ i, i < n → e i = 0 := by
  induction n with
  | zero => simp [fst0]
  | succ n ih =>
    unfold fst0
    by_cases h : fst0 e n = 0
    · rw [if_pos h]
      constructor
      · intro g i hi
        by_cases e2 : i < n
        · exact ih.1 h i e2
        · obtain rfl : i = n := by omega
          exact g
      · intro g; exact g n (by omega)
    · rw [if_neg h]
      constructor
      · intro g; exact absurd g h
      · intro g; exact absurd (ih.2 fun i hi => g i (by omega)) h
theorem fst0_succ (e : Nat → Int) (n : Nat) : fst0 e (n + 1) = if fst0 e n = 0 then e n else fst0 e n := rfl
theorem fst0_more (e : Nat → Int) (n m : Nat) (h : fst0 e n ≠ 0) (hm : n ≤ m) : fst0 e m = fst0 e n := by
  induction m with
  | zero =>
    obtain rfl : n = 0 := by omega
    rfl
  | succ m ih =>
    by_cases g : n ≤ m
    · exact (fst0_succ e m).trans ((if_neg (by rw [ih g]; exact h)).trans (ih g))
    · obtain rfl : n = m + 1 := by omega
      rfl
theorem fst0_hit (e : Nat → Int) (n m : Nat) (h0 : fst0 e n = 0) (h : e n ≠ 0) (hm : n < m) : fst0 e m = e n := by
  have h1 : fst0 e (n + 1) = e n := by unfold fst0; rw [if_pos h0]
  rw [fst0_more e (n + 1) m (by rw [h1]; exact h) (by omega), h1]
theorem fst0_congr (e g : Nat → Int) (n : Nat) (h : ∀ i, i < n → e i = g i) : fst0 e n = fst0 g n := by
  induction n with
  | zero => rfl
  | succ n ih => unfold fst0; rw [ih (fun i hi => h i (by omega)), h n (by omega)]

/-- The error of a table's i-th rate. -/
def re (l : List Rt) (i : Nat) : Int :=
  if (rt l i).c < 1 ∨ 15 < (rt l i).c then 15
  else if (rt l i).f < 0 ∨ 876599 < (rt l i).f ∨ (rt l i).p < 1 ∨ 1000000000 < (rt l i).p then 1
  else if 0 < i ∧ ((rt l i).c < (rt l (i - 1)).c ∨ (rt l (i - 1)).c = (rt l i).c ∧ (rt l i).f ≤ (rt l (i - 1)).f) then 13 else 0
/-- Validate. -/
def ratesV (l : List Rt) : Int := if 200 < l.length then 4 else fst0 (re l) l.length
/-- The millionths of the last rate that fits, among the first k. -/
def lastP (l : List Rt) (cur h : Int) : Nat → Int
  | 0 => 0
  | k + 1 => if (rt l k).c = cur ∧ (rt l k).f ≤ h then (rt l k).p else lastP l cur h k
/-- At. -/
def atV (l : List Rt) (cur h : Int) : Int × Int :=
  if ratesV l ≠ 0 then (0, ratesV l) else if ¬ (0 ≤ h ∧ h ≤ 876599) then (0, 1) else if ¬ (0 ≤ cur ∧ cur ≤ 15) then (0, 15) else if cur = 0 then (1000000, 0) else
    if lastP l cur h l.length = 0 then (0, 15) else (lastP l cur h l.length, 0)
theorem rates_ok (l : List Rt) (h : ratesV l = 0) : l.length ≤ 200 ∧ ∀ i, i < l.length → re l i = 0 := by
  unfold ratesV at h
  by_cases g : 200 < l.length
  · rw [if_pos g] at h; cases h
  · rw [if_neg g] at h; exact ⟨by omega, (fst0_zero _ _).1 h⟩
theorem re_zero (l : List Rt) (i : Nat) (h : re l i = 0) : 1 ≤ (rt l i).c ∧ (rt l i).c ≤ 15 ∧ 0 ≤ (rt l i).f ∧ (rt l i).f ≤ 876599 ∧ 1 ≤ (rt l i).p ∧ (rt l i).p ≤ 1000000000 ∧
    (0 < i → (rt l (i - 1)).c < (rt l i).c ∨ (rt l (i - 1)).c = (rt l i).c ∧ (rt l (i - 1)).f < (rt l i).f) := by
  unfold re at h
  split at h
  · cases h
  · split at h
    · cases h
    · split at h
      · cases h
      · rename_i a b c
        refine ⟨by omega, by omega, by omega, by omega, by omega, by omega, fun hi => ?_⟩
        have c2 : ¬ ((rt l i).c < (rt l (i - 1)).c ∨ (rt l (i - 1)).c = (rt l i).c ∧ (rt l i).f ≤ (rt l (i - 1)).f) := fun g => c ⟨hi, g⟩
        omega
theorem lastP_bd (l : List Rt) (cur h : Int) (k : Nat) (hk : ∀ i, i < k → 1 ≤ (rt l i).p ∧ (rt l i).p ≤ 1000000000) : 0 ≤ lastP l cur h k ∧ lastP l cur h k ≤ 1000000000 := by
  induction k with
  | zero => simp [lastP]
  | succ k ih =>
    have := hk k (by omega)
    unfold lastP
    split
    · omega
    · exact ih fun i hi => hk i (by omega)

/-- The error of a list's i-th amount. -/
def ce (l : List Cs) (i : Nat) : Int := if (cs l i).c < 0 ∨ 15 < (cs l i).c then 15 else if ¬ okI (cs l i).a then 1 else 0
/-- The sum of a currency among the first k. -/
def sumC (l : List Cs) (c : Int) : Nat → Int
  | 0 => 0
  | k + 1 => sumC l c k + if (cs l k).c = c then (cs l k).a else 0
def totC (l : List Cs) (c : Int) : Int := sumC l c l.length
/-- The balance of the currencies before k. -/
def balK (l : List Cs) : Nat → List Cs
  | 0 => []
  | k + 1 => if totC l k = 0 then balK l k else balK l k ++ [⟨(k : Int), totC l k⟩]
/-- Is a sum of the currencies before k too great? -/
def okK (l : List Cs) (k : Nat) : Prop := ∀ c : Nat, c < k → okI (totC l c)
instance (l : List Cs) (k : Nat) : Decidable (okK l k) := by unfold okK; infer_instance
/-- Normalize. -/
def normV (l : List Cs) : List Cs × Int := if 65536 < l.length then ([], 4) else if fst0 (ce l) l.length ≠ 0 then ([], fst0 (ce l) l.length) else if okK l 16 then (balK l 16, 0) else ([], 3)
theorem sumC_congr (l r : List Cs) (c : Int) (k : Nat) (h : ∀ i, i < k → cs l i = cs r i) : sumC l c k = sumC r c k := by
  induction k with
  | zero => rfl
  | succ k ih => unfold sumC; rw [ih fun i hi => h i (by omega), h k (by omega)]
theorem totC_snoc (l : List Cs) (x : Cs) (c : Int) : totC (l ++ [x]) c = totC l c + if x.c = c then x.a else 0 := by
  unfold totC
  rw [List.length_append, List.length_singleton]
  show sumC (l ++ [x]) c l.length + _ = _
  rw [sumC_congr (l ++ [x]) l c l.length fun i hi => cs_append l [x] i hi, show cs (l ++ [x]) l.length = x by rw [cs_at _ _ (by simp)]; simp]
theorem totC_nil (c : Int) : totC [] c = 0 := rfl
theorem totC_append (l r : List Cs) (c : Int) : totC (l ++ r) c = totC l c + totC r c := by
  have go : ∀ (n : Nat) (r : List Cs), r.length = n → totC (l ++ r) c = totC l c + totC r c := by
    intro n
    induction n with
    | zero => intro r hr; obtain rfl : r = [] := List.length_eq_zero_iff.1 hr
              rw [List.append_nil, totC_nil, Int.add_zero]
    | succ n ih =>
      intro r hr
      have hne : r ≠ [] := fun e => by rw [e] at hr; simp at hr
      obtain ⟨r', x, rfl⟩ : ∃ r' x, r = r' ++ [x] := ⟨r.dropLast, r.getLast hne, (List.dropLast_concat_getLast hne).symm⟩
      rw [← List.append_assoc, totC_snoc, totC_snoc, ih r' (by simpa using hr)]
      omega
  exact go r.length r rfl
theorem totC_cons (x : Cs) (l : List Cs) (c : Int) : totC (x :: l) c = (if x.c = c then x.a else 0) + totC l c := by
  rw [show x :: l = [] ++ [x] ++ l from rfl, totC_append, totC_snoc, totC_nil, Int.zero_add]
theorem totC_perm {l r : List Cs} (h : l.Perm r) (c : Int) : totC l c = totC r c := by
  induction h with
  | nil => rfl
  | cons x _ ih => rw [totC_cons, totC_cons, ih]
  | swap x y l => rw [totC_cons, totC_cons, totC_cons, totC_cons]; omega
  | trans _ _ a b => rw [a, b]
/-- The balance has the sums. -/
theorem totC_balK (l : List Cs) (c : Nat) (k : Nat) : totC (balK l k) c = if c < k then totC l c else 0 := by
  induction k with
  | zero => rfl
  | succ k ih =>
    unfold balK
    by_cases h : totC l k = 0
    · rw [if_pos h, ih]
      by_cases e : c = k
      · subst e; rw [if_neg (by omega), if_pos (by omega), h]
      · by_cases g : c < k
        · rw [if_pos g, if_pos (by omega)]
        · rw [if_neg g, if_neg (by omega)]
    · rw [if_neg h, totC_snoc, ih]
      by_cases e : c = k
      · subst e; rw [if_neg (by omega), if_pos rfl, if_pos (by omega)]; show 0 + totC l (c : Int) = _; omega
      · rw [if_neg (show ¬ ((k : Int) = (c : Int)) by omega)]
        by_cases g : c < k
        · rw [if_pos g, if_pos (by omega)]; omega
        · rw [if_neg g, if_neg (by omega)]; rfl
theorem balK_congr (l r : List Cs) (k : Nat) (h : ∀ c : Nat, c < k → totC l c = totC r c) : balK l k = balK r k := by
  induction k with
  | zero => rfl
  | succ k ih => unfold balK; rw [ih fun c hc => h c (by omega), h k (by omega)]
theorem balK_length (l : List Cs) (k : Nat) : (balK l k).length ≤ k := by
  induction k with
  | zero => simp [balK]
  | succ k ih =>
    unfold balK
    split
    · omega
    · rw [List.length_append, List.length_singleton]; omega
theorem balK_mem (l : List Cs) (k : Nat) (x : Cs) (h : x ∈ balK l k) : ∃ c : Nat, c < k ∧ x = ⟨(c : Int), totC l c⟩ ∧ totC l c ≠ 0 := by
  induction k with
  | zero => simp [balK] at h
  | succ k ih =>
    unfold balK at h
    split at h
    · obtain ⟨c, a, b⟩ := ih h; exact ⟨c, by omega, b⟩
    · rename_i hz
      rcases List.mem_append.1 h with h | h
      · obtain ⟨c, a, b⟩ := ih h; exact ⟨c, by omega, b⟩
      · exact ⟨k, by omega, List.mem_singleton.1 h, hz⟩
end Go.Proofs.Ytcdfedkcefhdiaa.Exc
