/- Lists of bytes: kinds of bytes, spans, words and marks (mathematics). -/
import Derived.Test.YtdehldcgakdobaaGreatDoorTxt
namespace Go.Proofs.YtdehldcgakdobaaGreatDoor.Lx
open Go.RowKit Go.Lib Go.Proofs.YtdehldcgakdobaaGreatDoor.Bas Go.Proofs.YtdehldcgakdobaaGreatDoor.Cal
set_option linter.unusedVariables false

/-- The bytes of a string. -/
def bl (s : ByteArray) : List UInt8 := s.data.toList
theorem bl_size (s : ByteArray) : (bl s).length = s.size := by unfold bl ByteArray.size; rw [Array.length_toList]
theorem bl_tx (l : List UInt8) : bl (tx l) = l := rfl
theorem tx_bl (s : ByteArray) : tx (bl s) = s := by cases s; rfl
theorem bl_get (s : ByteArray) (k : Nat) (h : k < s.size) : (bl s).getD k 0 = s[k] := by
  have h2 : k < (bl s).length := by rw [bl_size]; exact h
  rw [List.getD_eq_getElem?_getD, List.getElem?_eq_getElem h2]
  simp [bl]
  rfl
theorem bl_extract (s : ByteArray) (a b : Nat) (h : b ≤ s.size) : bl (s.extract a b) = ((bl s).take b).drop a := by
  apply List.ext_getElem
  · rw [bl_size, ByteArray.size_extract, List.length_drop, List.length_take, bl_size]
  · intro i h1 h2
    have h1' : i < (s.extract a b).size := by rw [bl_size] at h1; exact h1
    have e1 := bl_get (s.extract a b) i h1'
    rw [List.getD_eq_getElem?_getD, List.getElem?_eq_getElem h1] at e1
    have h3 : a + i < s.size := by rw [ByteArray.size_extract] at h1'; omega
    have e2 := bl_get s (a + i) h3
    rw [List.getD_eq_getElem?_getD, List.getElem?_eq_getElem (by rw [bl_size]; exact h3)] at e2
    simp only [Option.getD_some] at e1 e2
    rw [e1, List.getElem_drop, List.getElem_take, e2]
    simp [ByteArray.getElem_extract]

def ltr (c : UInt8) : Bool := decide (97 ≤ c.toNat ∧ c.toNat ≤ 122)
def dgt (c : UInt8) : Bool := decide (48 ≤ c.toNat ∧ c.toNat ≤ 57)
def inW (c : UInt8) : Bool := ltr c || (dgt c || decide (c.toNat = 45))
def inH (c : UInt8) : Bool := dgt c || (decide (c.toNat = 45) || decide (c.toNat = 84))
def inC (c : UInt8) : Bool := !decide (c.toNat = 10)
/-- How many bytes at the beginning are of a kind. -/
def spn (f : UInt8 → Bool) : List UInt8 → Nat
  | [] => 0
  | c :: r => if f c = true then spn f r + 1 else 0
theorem spn_le (f : UInt8 → Bool) (l : List UInt8) : spn f l ≤ l.length := by
  induction l with
  | nil => exact Nat.le_refl _
  | cons c r ih => simp only [spn]; split <;> simp <;> omega
theorem spn_in (f : UInt8 → Bool) (l : List UInt8) : ∀ j, j < spn f l → f (l.getD j 0) = true := by
  induction l with
  | nil => intro j h; simp [spn] at h
  | cons c r ih =>
    intro j h
    simp only [spn] at h
    split at h
    · cases j with
      | zero => simpa using by assumption
      | succ j => simpa using ih j (by omega)
    · omega
theorem spn_out (f : UInt8 → Bool) (l : List UInt8) (h : spn f l < l.length) : f (l.getD (spn f l) 0) = false := by
  induction l with
  | nil => simp [spn] at h
  | cons c r ih =>
    simp only [spn] at h ⊢
    split
    · rename_i hc
      rw [if_pos hc] at h
      simpa using ih (by simpa using h)
    · rename_i hc
      simpa using hc
/-- The first place from which on it fails is the span. -/
theorem spn_eq (f : UInt8 → Bool) (l : List UInt8) (k : Nat) (hk : k ≤ l.length) (h1 : ∀ j, j < k → f (l.getD j 0) = true) (h2 : k < l.length → f (l.getD k 0) = false) : spn f l = k := by
  by_cases a : spn f l < k
  · have := spn_out f l (by omega)
    rw [h1 _ a] at this; cases this
  · by_cases b : k < spn f l
    · have := spn_in f l k b
      rw [h2 (by have := spn_le f l; omega)] at this; cases this
    · omega
theorem spn_append (f : UInt8 → Bool) (w r : List UInt8) (hw : ∀ c ∈ w, f c = true) (hr : r = [] ∨ f (r.getD 0 0) = false) : spn f (w ++ r) = w.length := by
  induction w with
  | nil =>
    rcases hr with rfl | h
    · rfl
    · cases r with
      | nil => rfl
      | cons c r => simp at h; simp [spn, h]
  | cons c w ih =>
    rw [List.cons_append, spn, if_pos (hw c (by simp)), ih (fun x hx => hw x (by simp [hx]))]
    rfl
theorem spn_all (f : UInt8 → Bool) (l : List UInt8) : spn f l = l.length ↔ ∀ c ∈ l, f c = true := by
  constructor
  · intro h c hc
    obtain ⟨j, hj, rfl⟩ := List.getElem_of_mem hc
    have := spn_in f l j (by omega)
    rw [List.getD_eq_getElem?_getD, List.getElem?_eq_getElem hj] at this
    simpa using this
  · intro h
    have := spn_append f l [] h (.inl rfl)
    rwa [List.append_nil] at this

/-- Is it a word? -/
def wordB (l : List UInt8) : Bool := decide (1 ≤ l.length ∧ l.length ≤ 16 ∧ ltr (l.getD 0 0) = true ∧ (l.getD (l.length - 1) 0).toNat ≠ 45 ∧ ∀ c ∈ l, inW c = true)
def markB (l : List UInt8) : Bool := decide (l = [59] ∨ l = [58] ∨ l = [44] ∨ l = [40] ∨ l = [41])
end Go.Proofs.YtdehldcgakdobaaGreatDoor.Lx
