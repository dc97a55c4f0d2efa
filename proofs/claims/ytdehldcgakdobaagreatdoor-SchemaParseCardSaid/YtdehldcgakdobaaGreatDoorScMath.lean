/- Schemas and facts: what Validate, Domain, Valid and Format are specified to return (mathematics of lists of bytes). -/
import Derived.Test.YtdehldcgakdobaaGreatDoorLxRes
import Derived.Lib.ItoaNum
namespace Go.Proofs.YtdehldcgakdobaaGreatDoor.Sc
open Go.RowKit Go.Lib Go.Proofs.YtdehldcgakdobaaGreatDoor.Bas Go.Proofs.YtdehldcgakdobaaGreatDoor.Cal Go.Proofs.YtdehldcgakdobaaGreatDoor.Lx
set_option linter.unusedVariables false

/-- An attribute. -/
structure At where
  nm : List UInt8
  k : Int
  ws : List (List UInt8)
  lo : Int
  hi : Int
def a0 : At := ⟨[], 0, [], 0, 0⟩
def at' (L : List At) (i : Nat) : At := L.getD i a0
theorem at_at (L : List At) (i : Nat) (h : i < L.length) : at' L i = L[i] := by
  unfold at'; rw [List.getD_eq_getElem?_getD, List.getElem?_eq_getElem h]; rfl
def nameB (l : List UInt8) : Bool := wordB l && !resB l
/-- Do the elements differ from each other? -/
def distB (l : List (List UInt8)) : Bool := decide (∀ i, i < l.length → ∀ k, k < i → l.getD i [] ≠ l.getD k [])
def namesB (l : List (List UInt8)) : Bool := decide (∀ i, i < l.length → nameB (l.getD i []) = true)
def farB (n : Int) : Bool := decide (n > 1000000000) || decide (n < -1000000000)
/-- The error of what belongs to an attribute's kind. -/
def attE (a : At) : Int :=
  if a.k = 1 then (if a.lo ≠ 0 ∨ a.hi ≠ 0 then 20 else if a.ws.length = 0 then 19 else if 12 < a.ws.length then 4 else if namesB a.ws = false then 6 else if distB a.ws = false then 8 else 0)
  else if a.k = 2 then (if 0 < a.ws.length then 20 else if a.hi < a.lo ∨ farB a.lo = true ∨ farB a.hi = true then 1 else 0)
  else if a.k = 3 then (if 0 < a.ws.length ∨ a.lo ≠ 0 ∨ a.hi ≠ 0 then 20 else 0)
  else 11
/-- Has an earlier attribute its name? -/
def dupB (L : List At) (i : Nat) : Bool := !decide (∀ k, k < i → (at' L k).nm ≠ (at' L i).nm)
/-- The error of the attribute i. -/
def atE (L : List At) (i : Nat) : Int :=
  if nameB (at' L i).nm = false then 6
  else if dupB L i = true then 8
  else attE (at' L i)
/-- The first error from the attribute i on. -/
def fromE (L : List At) : Nat → Nat → Int
  | 0, _ => 0
  | n + 1, i => if atE L i ≠ 0 then atE L i else fromE L n (i + 1)
def schE (L : List At) : Int := if L.length = 0 then 19 else if 6 < L.length then 4 else fromE L L.length 0
/-- The domain of an attribute. -/
def domV (a : At) : Int × Int := if a.k = 1 then (0, (a.ws.length : Int) - 1) else if a.k = 2 then (a.lo, a.hi) else (0, 1)
def domAt (L : List At) (i : Int) : Int × Int := if schE L ≠ 0 ∨ i < 0 ∨ (L.length : Int) ≤ i then (0, -1) else domV (at' L i.toNat)
/-- Are they facts? -/
def factsB (L : List At) (f : List Int) : Bool := decide (schE L = 0 ∧ f.length = L.length ∧ ∀ i, i < L.length → (domV (at' L i)).1 ≤ f.getD i 0 ∧ f.getD i 0 ≤ (domV (at' L i)).2)
/-- The text of a value. -/
def valT (a : At) (n : Int) : List UInt8 := if a.k = 1 then a.ws.getD n.toNat [] else if a.k = 2 then itoa n else if n = 1 then [121, 101, 115] else [110, 111]
def oneT (a : At) (n : Int) : List UInt8 := a.nm ++ ([61] ++ valT a n)
/-- The text of the first k facts. -/
def sepT (k : Nat) : List UInt8 := if k = 0 then [] else [59, 32]
def fmtP (L : List At) (f : List Int) : Nat → List UInt8
  | 0 => []
  | k + 1 => fmtP L f k ++ sepT k ++ oneT (at' L k) (f.getD k 0)
def fmtF (L : List At) (f : List Int) : List UInt8 × Int := if schE L ≠ 0 then ([], schE L) else if factsB L f = false then ([], 16) else (fmtP L f L.length, 0)

theorem fromE_none (L : List At) : ∀ n i, (∀ j, i ≤ j → j < i + n → atE L j = 0) → fromE L n i = 0 := by
  intro n
  induction n with
  | zero => intro i _; rfl
  | succ n ih => intro i h; rw [fromE, if_neg (by rw [h i (Nat.le_refl _) (by omega)]; simp)]; exact ih _ (fun j h1 h2 => h j (by omega) (by omega))
theorem fromE_zero (L : List At) : ∀ n i, fromE L n i = 0 → ∀ j, i ≤ j → j < i + n → atE L j = 0 := by
  intro n
  induction n with
  | zero => intro i _ j h1 h2; omega
  | succ n ih =>
    intro i h j h1 h2
    rw [fromE] at h
    split at h
    · rename_i hh; exact absurd h hh
    · rename_i hh
      by_cases e : j = i
      · subst e; simpa using hh
      · exact ih _ h j (by omega) (by omega)
theorem schE_ok (L : List At) (h : schE L = 0) : 1 ≤ L.length ∧ L.length ≤ 6 ∧ ∀ i, i < L.length → atE L i = 0 := by
  unfold schE at h
  split at h
  · cases h
  · split at h
    · cases h
    · exact ⟨by omega, by omega, fun i hi => fromE_zero L _ 0 h i (Nat.zero_le _) (by omega)⟩
theorem atE_ok (L : List At) (i : Nat) (h : atE L i = 0) : nameB (at' L i).nm = true ∧ attE (at' L i) = 0 := by
  unfold atE at h
  split at h
  · cases h
  · rename_i h1
    split at h
    · cases h
    · exact ⟨by simpa using h1, h⟩
theorem attE_ok (a : At) (h : attE a = 0) : (a.k = 1 ∧ a.lo = 0 ∧ a.hi = 0 ∧ 1 ≤ a.ws.length ∧ a.ws.length ≤ 12 ∧ namesB a.ws = true ∧ distB a.ws = true) ∨ (a.k = 2 ∧ a.ws.length = 0 ∧ a.lo ≤ a.hi ∧ -1000000000 ≤ a.lo ∧ a.hi ≤ 1000000000) ∨ (a.k = 3 ∧ a.ws.length = 0 ∧ a.lo = 0 ∧ a.hi = 0) := by
  unfold attE at h
  split at h
  · rename_i hk
    left
    split at h
    · cases h
    · rename_i h1
      split at h
      · cases h
      · split at h
        · cases h
        · split at h
          · cases h
          · rename_i h4
            split at h
            · cases h
            · rename_i h5
              exact ⟨hk, by omega, by omega, by omega, by omega, by simpa using h4, by simpa using h5⟩
  · split at h
    · rename_i hk
      right; left
      split at h
      · cases h
      · split at h
        · cases h
        · rename_i h2
          have f1 : farB a.lo = false := by cases hf : farB a.lo with | true => exact absurd (.inr (.inl hf)) h2 | false => rfl
          have f2 : farB a.hi = false := by cases hf : farB a.hi with | true => exact absurd (.inr (.inr hf)) h2 | false => rfl
          unfold farB at f1 f2
          simp at f1 f2
          exact ⟨hk, by omega, by omega, by omega, by omega⟩
    · split at h
      · rename_i hk
        right; right
        split at h
        · cases h
        · rename_i h1
          exact ⟨hk, by omega, by omega, by omega⟩
      · cases h
/-- A domain has a value, and its bounds are small. -/
theorem domV_bd (a : At) (h : attE a = 0) : (domV a).1 ≤ (domV a).2 ∧ -1000000000 ≤ (domV a).1 ∧ (domV a).2 ≤ 1000000000 := by
  unfold domV
  rcases attE_ok a h with ⟨hk, h1, h2, h3, h4, _⟩ | ⟨hk, h1, h2, h3, h4⟩ | ⟨hk, h1, h2, h3⟩
  · rw [if_pos hk]; show (0 : Int) ≤ (a.ws.length : Int) - 1 ∧ _ ∧ _; refine ⟨by omega, by show (-1000000000 : Int) ≤ 0; decide, by show (a.ws.length : Int) - 1 ≤ _; omega⟩
  · rw [if_neg (by omega), if_pos hk]; exact ⟨h2, h3, h4⟩
  · rw [if_neg (by omega), if_neg (by omega)]; exact ⟨by decide, by decide, by decide⟩
theorem fromE_at (L : List At) (r : Int) (k : Nat) (hr : atE L k = r) (h0 : r ≠ 0) : ∀ n i, i ≤ k → k < i + n → (∀ j, i ≤ j → j < k → atE L j = 0) → fromE L n i = r := by
  intro n
  induction n with
  | zero => intro i h1 h2 _; omega
  | succ n ih =>
    intro i h1 h2 hz
    rw [fromE]
    by_cases e : i = k
    · subst e; rw [hr, if_pos h0]
    · rw [if_neg (by rw [hz i (Nat.le_refl _) (by omega)]; simp)]
      exact ih (i + 1) (by omega) (by omega) (fun j a b => hz j (by omega) b)
theorem schE_at (L : List At) (r : Int) (k : Nat) (h6 : L.length ≤ 6) (hk : k < L.length) (hz : ∀ j, j < k → atE L j = 0) (hr : atE L k = r) (h0 : r ≠ 0) : schE L = r := by
  unfold schE
  rw [if_neg (by omega), if_neg (by omega)]
  exact fromE_at L r k hr h0 _ 0 (Nat.zero_le _) (by omega) (fun j _ hj => hz j hj)
theorem schE_all (L : List At) (h6 : L.length ≤ 6) (h1 : 0 < L.length) (hz : ∀ j, j < L.length → atE L j = 0) : schE L = 0 := by
  unfold schE
  rw [if_neg (by omega), if_neg (by omega)]
  exact fromE_none L _ 0 (fun j _ hj => hz j (by omega))
theorem atE_name (L : List At) (i : Nat) (h : nameB (at' L i).nm = false) : atE L i = 6 := by unfold atE; rw [if_pos h]
theorem atE_dup (L : List At) (i : Nat) (h : nameB (at' L i).nm = true) (k : Nat) (hk : k < i) (e : (at' L k).nm = (at' L i).nm) : atE L i = 8 := by
  unfold atE
  rw [if_neg (by rw [h]; simp), if_pos]
  unfold dupB
  rw [decide_eq_false (fun hh => hh k hk e)]; rfl
theorem atE_att (L : List At) (i : Nat) (h : nameB (at' L i).nm = true) (hk : ∀ k, k < i → (at' L k).nm ≠ (at' L i).nm) : atE L i = attE (at' L i) := by
  unfold atE
  rw [if_neg (by rw [h]; simp), if_neg]
  unfold dupB
  rw [decide_eq_true hk]; simp
end Go.Proofs.YtdehldcgakdobaaGreatDoor.Sc
