/- Tokens of a text: what Scan and Join are specified to return (mathematics of lists of bytes). -/
import Derived.Test.YtaengcbjpniclaaGreatDoorCalRead
import Derived.Lib.ItoaNum
import Derived.Lib.AtoiAll
namespace Go.Proofs.YtaengcbjpniclaaGreatDoor.Lx
open Go.RowKit Go.Lib Go.Proofs.YtaengcbjpniclaaGreatDoor.Bas Go.Proofs.YtaengcbjpniclaaGreatDoor.Cal
set_option linter.unusedVariables false

/-- The bytes of a string. -/
def bl (s : ByteArray) : List UInt8 := s.data.toList
theorem bl_size (s : ByteArray) : (bl s).length = s.size := by unfold bl ByteArray.size; rw [Array.length_toList]
theorem bl_tx (l : List UInt8) : bl (tx l) = l := rfl
theorem tx_bl (s : ByteArray) : tx (bl s) = s := by cases s; rfl
theorem bl_get (s : ByteArray) (k : Nat) (h : k < s.size) : (bl s).getD k 0 = s[k] := by
  have h2 : k < (bl s).length := by rw [bl_size]; exact h
  rw [List.getD_eq_getElem?_getD, List.getElem?_eq_getElem h2]
  simp [bl]
  rfl
theorem bl_extract (s : ByteArray) (a b : Nat) (h : b ≤ s.size) : bl (s.extract a b) = ((bl s).take b).drop a := by
  apply List.ext_getElem
  · rw [bl_size, ByteArray.size_extract, List.length_drop, List.length_take, bl_size]
  · intro i h1 h2
    have h1' : i < (s.extract a b).size := by rw [bl_size] at h1; exact h1
    have e1 := bl_get (s.extract a b) i h1'
    rw [List.getD_eq_getElem?_getD, List.getElem?_eq_getElem h1] at e1
    have h3 : a + i < s.size := by rw [ByteArray.size_extract] at h1'; omega
    have e2 := bl_get s (a + i) h3
    rw [List.getD_eq_getElem?_getD, List.getElem?_eq_getElem (by rw [bl_size]; exact h3)] at e2
    simp only [Option.getD_some] at e1 e2
    rw [e1, List.getElem_drop, List.getElem_take, e2]
    simp [ByteArray.getElem_extract]

def ltr (c : UInt8) : Bool := decide (97 ≤ c.toNat ∧ c.toNat ≤ 122)
def dgt (c : UInt8) : Bool := decide (48 ≤ c.toNat ∧ c.toNat ≤ 57)
def inW (c : UInt8) : Bool := ltr c || (dgt c || decide (c.toNat = 45))
def inH (c : UInt8) : Bool := dgt c || (decide (c.toNat = 45) || decide (c.toNat = 84))
def inC (c : UInt8) : Bool := !decide (c.toNat = 10)
/-- How many bytes at the beginning are of a kind. -/
def spn (f : UInt8 → Bool) : List UInt8 → Nat
  | [] => 0
  | c :: r => if f c = true then spn f r + 1 else 0
theorem spn_le (f : UInt8 → Bool) (l : List UInt8) : spn f l ≤ l.length := by
  induction l with
  | nil => exact Nat.le_refl _
  | cons c r ih => simp only [spn]; split <;> simp <;> omega
theorem spn_in (f : UInt8 → Bool) (l : List UInt8) : ∀ j, j < spn f l → f (l.getD j 0) = true := by
  induction l with
  | nil => intro j h; simp [spn] at h
  | cons c r ih =>
    intro j h
    simp only [spn] at h
    split at h
    · cases j with
      | zero => simpa using by assumption
      | succ j => simpa using ih j (by omega)
    · omega
theorem spn_out (f : UInt8 → Bool) (l : List UInt8) (h : spn f l < l.length) : f (l.getD (spn f l) 0) = false := by
  induction l with
  | nil => simp [spn] at h
  | cons c r ih =>
    simp only [spn] at h ⊢
    split
    · rename_i hc
      rw [if_pos hc] at h
      simpa using ih (by simpa using h)
    · rename_i hc
      simpa using hc
/-- The first place from which on it fails is the span. -/
theorem spn_eq (f : UInt8 → Bool) (l : List UInt8) (k : Nat) (hk : k ≤ l.length) (h1 : ∀ j, j < k → f (l.getD j 0) = true) (h2 : k < l.length → f (l.getD k 0) = false) : spn f l = k := by
  by_cases a : spn f l < k
  · have := spn_out f l (by omega)
    rw [h1 _ a] at this; cases this
  · by_cases b : k < spn f l
    · have := spn_in f l k b
      rw [h2 (by have := spn_le f l; omega)] at this; cases this
    · omega
theorem spn_append (f : UInt8 → Bool) (w r : List UInt8) (hw : ∀ c ∈ w, f c = true) (hr : r = [] ∨ f (r.getD 0 0) = false) : spn f (w ++ r) = w.length := by
  induction w with
  | nil =>
    rcases hr with rfl | h
    · rfl
    · cases r with
      | nil => rfl
      | cons c r => simp at h; simp [spn, h]
  | cons c w ih =>
    rw [List.cons_append, spn, if_pos (hw c (by simp)), ih (fun x hx => hw x (by simp [hx]))]
    rfl
theorem spn_all (f : UInt8 → Bool) (l : List UInt8) : spn f l = l.length ↔ ∀ c ∈ l, f c = true := by
  constructor
  · intro h c hc
    obtain ⟨j, hj, rfl⟩ := List.getElem_of_mem hc
    have := spn_in f l j (by omega)
    rw [List.getD_eq_getElem?_getD, List.getElem?_eq_getElem hj] at this
    simpa using this
  · intro h
    have := spn_append f l [] h (.inl rfl)
    rwa [List.append_nil] at this

/-- Is it a word? -/
def wordB (l : List UInt8) : Bool := decide (1 ≤ l.length ∧ l.length ≤ 16 ∧ ltr (l.getD 0 0) = true ∧ (l.getD (l.length - 1) 0).toNat ≠ 45 ∧ ∀ c ∈ l, inW c = true)
def markB (l : List UInt8) : Bool := decide (l = [59] ∨ l = [58] ∨ l = [44] ∨ l = [40] ∨ l = [41])
structure Tk where
  k : Int
  t : List UInt8
  n : Int
  p : Int
def z0 : Tk := ⟨0, [], 0, 0⟩
/-- The number that digits are written for. -/
def dv (acc : Nat) (l : List UInt8) : Nat := l.foldl (fun a c => a * 10 + (c.toNat - 48)) acc
def sgn (l : List UInt8) : Nat := if (l.getD 0 0).toNat = 45 then 1 else 0
def numSz (l : List UInt8) : Nat := sgn l + spn dgt (l.drop (sgn l))
def numV (l : List UInt8) : Tk × Nat × Int :=
  if numSz l = sgn l ∨ 1 < numSz l ∧ (l.getD (sgn l) 0).toNat = 48 then (z0, 0, 5)
  else if 17592186044416 < dv 0 ((l.take (numSz l)).drop (sgn l)) then (z0, 0, 1)
  else (⟨2, [], if sgn l = 1 then -(dv 0 ((l.take (numSz l)).drop (sgn l)) : Int) else dv 0 ((l.take (numSz l)).drop (sgn l)), 0⟩, numSz l, 0)
def hrSz (l : List UInt8) : Nat := 1 + spn inH (l.drop 1)
def hrV (l : List UInt8) : Tk × Nat × Int :=
  if (parseV (tx ((l.take (hrSz l)).drop 1))).2 ≠ 0 then (z0, 0, (parseV (tx ((l.take (hrSz l)).drop 1))).2)
  else (⟨3, [], (parseV (tx ((l.take (hrSz l)).drop 1))).1, 0⟩, hrSz l, 0)
def wdV (l : List UInt8) : Tk × Nat × Int := if wordB (l.take (spn inW l)) = true then (⟨1, l.take (spn inW l), 0, 0⟩, spn inW l, 0) else (z0, 0, 6)
/-- The token at the beginning of a text that is not empty, its number of bytes and its error. -/
def firstV (l : List UInt8) : Tk × Nat × Int :=
  if ltr (l.getD 0 0) = true then wdV l
  else if dgt (l.getD 0 0) = true ∨ (l.getD 0 0).toNat = 45 then numV l
  else if (l.getD 0 0).toNat = 64 then hrV l
  else if markB (l.take 1) = true then (⟨4, l.take 1, 0, 0⟩, 1, 0)
  else (z0, 0, 5)
/-- Does what follows forbid a number? -/
def stp (l : List UInt8) : Bool := decide (0 < l.length) && (ltr (l.getD 0 0) || decide ((l.getD 0 0).toNat = 45))
def scanF : Nat → List UInt8 → Nat → List Tk → List Tk × Int × Int
  | 0, _, _, acc => (acc, 0, 0)
  | f + 1, l, at', acc =>
    if l = [] then (acc, 0, 0)
    else if (l.getD 0 0).toNat = 32 ∨ (l.getD 0 0).toNat = 10 then scanF f (l.drop 1) (at' + 1) acc
    else if (l.getD 0 0).toNat = 35 then scanF f (l.drop (spn inC l)) (at' + spn inC l) acc
    else if (firstV l).2.2 ≠ 0 then ([], at', (firstV l).2.2)
    else if acc.length = 4000 then ([], at', 4)
    else if (firstV l).1.k = 2 ∧ stp (l.drop (firstV l).2.1) = true then ([], at' + (firstV l).2.1, 5)
    else scanF f (l.drop (firstV l).2.1) (at' + (firstV l).2.1) (acc ++ [{ (firstV l).1 with p := at' }])

theorem first_size (l : List UInt8) (hl : l ≠ []) (h : (firstV l).2.2 = 0) : 1 ≤ (firstV l).2.1 ∧ (firstV l).2.1 ≤ l.length := by
  have h1 : 1 ≤ l.length := by cases l with | nil => exact absurd rfl hl | cons c r => simp
  revert h
  unfold firstV
  split
  · unfold wdV
    split
    · rename_i hw
      intro _
      have := spn_le inW l
      refine ⟨?_, this⟩
      have h2 := (of_decide_eq_true hw).1
      rw [List.length_take] at h2
      show 1 ≤ spn inW l
      omega
    · intro h; cases h
  · split
    · unfold numV
      split
      · intro h; cases h
      · rename_i hn
        split
        · intro h; cases h
        · intro _
          have a := spn_le dgt (l.drop (sgn l))
          rw [List.length_drop] at a
          have b : sgn l ≤ 1 := by unfold sgn; split <;> omega
          have c : numSz l = sgn l + spn dgt (l.drop (sgn l)) := rfl
          show 1 ≤ numSz l ∧ numSz l ≤ l.length
          omega
    · split
      · unfold hrV
        split
        · rename_i hh; intro h; exact absurd h hh
        · intro _
          have a := spn_le inH (l.drop 1)
          rw [List.length_drop] at a
          have c : hrSz l = 1 + spn inH (l.drop 1) := rfl
          show 1 ≤ hrSz l ∧ hrSz l ≤ l.length
          omega
      · split
        · intro _; exact ⟨Nat.le_refl _, h1⟩
        · intro h; cases h
theorem spnC_pos (l : List UInt8) (hl : l ≠ []) (h : (l.getD 0 0).toNat = 35) : 1 ≤ spn inC l := by
  cases l with
  | nil => exact absurd rfl hl
  | cons c r =>
    have hc : inC c = true := by
      have : c.toNat = 35 := by simpa using h
      unfold inC; simp; omega
    rw [spn, if_pos hc]; omega
theorem scanF_fuel : ∀ (f g : Nat) (l : List UInt8) (at' : Nat) (acc : List Tk), l.length ≤ f → l.length ≤ g → scanF f l at' acc = scanF g l at' acc := by
  intro f
  induction f with
  | zero =>
    intro g l at' acc hf hg
    have : l = [] := List.length_eq_zero_iff.1 (by omega)
    subst this
    cases g with
    | zero => rfl
    | succ g => rw [scanF, scanF, if_pos rfl]
  | succ f ih =>
    intro g l at' acc hf hg
    by_cases hl : l = []
    · subst hl
      cases g with
      | zero => rw [scanF, scanF, if_pos rfl]
      | succ g => rw [scanF, scanF, if_pos rfl, if_pos rfl]
    · have h1 : 1 ≤ l.length := by cases l with | nil => exact absurd rfl hl | cons c r => simp
      cases g with
      | zero => omega
      | succ g =>
        rw [scanF, scanF, if_neg hl, if_neg hl]
        split
        · exact ih g _ _ _ (by rw [List.length_drop]; omega) (by rw [List.length_drop]; omega)
        · split
          · rename_i hc
            have := spnC_pos l hl hc
            exact ih g _ _ _ (by rw [List.length_drop]; omega) (by rw [List.length_drop]; omega)
          · split
            · rfl
            · rename_i he
              have := first_size l hl (by simpa using he)
              split
              · rfl
              · split
                · rfl
                · exact ih g _ _ _ (by rw [List.length_drop]; omega) (by rw [List.length_drop]; omega)
/-- What is scanned from here on. -/
def scanL (l : List UInt8) (at' : Nat) (acc : List Tk) : List Tk × Int × Int := scanF l.length l at' acc
theorem scanL_nil (at' : Nat) (acc : List Tk) : scanL [] at' acc = (acc, 0, 0) := rfl
theorem scanL_step (l : List UInt8) (at' : Nat) (acc : List Tk) (hl : l ≠ []) : scanL l at' acc =
    if (l.getD 0 0).toNat = 32 ∨ (l.getD 0 0).toNat = 10 then scanL (l.drop 1) (at' + 1) acc
    else if (l.getD 0 0).toNat = 35 then scanL (l.drop (spn inC l)) (at' + spn inC l) acc
    else if (firstV l).2.2 ≠ 0 then ([], at', (firstV l).2.2)
    else if acc.length = 4000 then ([], at', 4)
    else if (firstV l).1.k = 2 ∧ stp (l.drop (firstV l).2.1) = true then ([], at' + (firstV l).2.1, 5)
    else scanL (l.drop (firstV l).2.1) (at' + (firstV l).2.1) (acc ++ [{ (firstV l).1 with p := at' }]) := by
  have h1 : 1 ≤ l.length := by cases l with | nil => exact absurd rfl hl | cons c r => simp
  rw [scanL, scanF_fuel l.length (l.length + 1) l at' acc (Nat.le_refl _) (by omega), scanF, if_neg hl]
  split
  · rw [scanL, scanF_fuel]
    · rw [List.length_drop]; omega
    · exact Nat.le_refl _
  · split
    · rw [scanL, scanF_fuel]
      · rw [List.length_drop]; omega
      · exact Nat.le_refl _
    · split
      · rfl
      · split
        · rfl
        · split
          · rfl
          · rw [scanL, scanF_fuel]
            · rw [List.length_drop]; omega
            · exact Nat.le_refl _
def scanV (l : List UInt8) : List Tk × Int × Int := if 16384 < l.length then ([], 0, 4) else scanL l 0 []

/-- A token's text, and its error. -/
def wr (t : Tk) : List UInt8 := if t.k = 2 then itoa t.n else if t.k = 3 then 64 :: bl (fmtT t.n) else t.t
def wrE (t : Tk) : Int :=
  if t.k < 1 ∨ 4 < t.k then 11
  else if t.k = 1 ∨ t.k = 4 then (if t.n ≠ 0 then 20 else if t.k = 1 then (if wordB t.t = true then 0 else 6) else if markB t.t = true then 0 else 5)
  else if t.t ≠ [] then 20
  else if t.k = 3 then (if 0 ≤ t.n ∧ t.n ≤ 876599 then 0 else 1)
  else if -17592186044416 ≤ t.n ∧ t.n ≤ 17592186044416 then 0 else 1
def joinE : List Tk → Int
  | [] => 0
  | t :: r => if wrE t ≠ 0 then wrE t else joinE r
/-- Is there a blank between them? -/
def gap (last s : List UInt8) : List UInt8 := if last ≠ [40] ∧ (s = [40] ∨ markB s = false) then [32] else []
def joinT (last : List UInt8) : List Tk → List UInt8
  | [] => []
  | t :: r => gap last (wr t) ++ (wr t ++ joinT (wr t) r)
def joinV (l : List Tk) : List UInt8 × Int :=
  if 4000 < l.length then ([], 4) else if joinE l ≠ 0 then ([], joinE l) else if 16384 < (joinT [40] l).length then ([], 4) else (joinT [40] l, 0)
end Go.Proofs.YtaengcbjpniclaaGreatDoor.Lx
