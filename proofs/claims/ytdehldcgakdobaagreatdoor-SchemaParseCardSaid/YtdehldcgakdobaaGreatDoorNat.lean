/- Words on lists of numbers that name no program: weights, amounts, natural numbers as ints. -/
import Derived.Test.YtdehldcgakdobaaGreatDoorBase
import Derived.Test.YtdehldcgakdobaaGreatDoorSplMath
namespace Go.Proofs.YtdehldcgakdobaaGreatDoor.Spl
open Go.RowKit Go.Lib Go.Proofs.YtdehldcgakdobaaGreatDoor.Bas
set_option linter.unusedVariables false

def okI (a : Int) : Prop := -17592186044416 ≤ a ∧ a ≤ 17592186044416
instance (a : Int) : Decidable (okI a) := by unfold okI; infer_instance
/-- May be a weight. -/
def okW (a : Int) : Prop := 0 ≤ a ∧ a ≤ 17592186044416
instance (a : Int) : Decidable (okW a) := by unfold okW; infer_instance
def cl (a : Int) : Int := if 17592186044416 < a then 17592186044416 else if a < -17592186044416 then -17592186044416 else a
theorem cl_ok (a : Int) : okI (cl a) := by unfold cl okI; split <;> (try split) <;> omega

/-- The rest of a list from k on. -/
theorem all_drop_step {p : Int → Prop} {l : List Int} {k : Nat} (hk : k < l.length) (h : ∀ y ∈ l.take k, p y) (h2 : p (l.getD k 0)) : ∀ y ∈ l.take (k + 1), p y := by
  intro y hy
  rw [List.take_succ_eq_append_getElem hk] at hy
  rcases List.mem_append.1 hy with h1 | h1
  · exact h y h1
  · rw [List.mem_singleton.1 h1]; rw [List.getD_eq_getElem?_getD, List.getElem?_eq_getElem hk] at h2; exact h2
theorem getD_mem {l : List Int} {k : Nat} (hk : k < l.length) : l.getD k 0 ∈ l := by
  rw [List.getD_eq_getElem?_getD, List.getElem?_eq_getElem hk]; exact List.getElem_mem _

/-- The sum of the first k. -/
theorem S_wt_lt (l : List Nat) (k : Nat) (hk : k < l.length) (B : Nat) (h : ∀ x ∈ l, x ≤ B) : wt l k ≤ B := by
  unfold wt; rw [List.getD_eq_getElem?_getD, List.getElem?_eq_getElem hk]; exact h _ (List.getElem_mem _)
theorem S_wt_le (l : List Nat) (k : Nat) (hk : k ≤ l.length) (B : Nat) (h : ∀ x ∈ l, x ≤ B) : S (wt l) k ≤ k * B :=
  S_le_const fun i hi => S_wt_lt l i (by omega) B h
/-- A list of ints that are not negative, as natural numbers. -/
def ofN (l : List Nat) : List Int := l.map fun x : Nat => (x : Int)
theorem ofN_length (l : List Nat) : (ofN l).length = l.length := by simp [ofN]
theorem ofN_getD (l : List Nat) (k : Nat) : (ofN l).getD k 0 = ((wt l k : Nat) : Int) := by
  unfold ofN wt
  rw [List.getD_eq_getElem?_getD, List.getD_eq_getElem?_getD, List.getElem?_map]
  cases l[k]? <;> simp
theorem ofN_of (l : List Int) (h : ∀ x ∈ l, okW x) : ∃ m : List Nat, l = ofN m ∧ ∀ x ∈ m, x ≤ 17592186044416 := by
  induction l with
  | nil => exact ⟨[], rfl, by simp⟩
  | cons x r ih =>
    obtain ⟨m, rfl, hm⟩ := ih fun y hy => h y (by simp [hy])
    have hx := h x (by simp)
    unfold okW at hx
    refine ⟨x.toNat :: m, by simp [ofN]; omega, fun y hy => ?_⟩
    rcases List.mem_cons.1 hy with rfl | hy
    · omega
    · exact hm y hy

end Go.Proofs.YtdehldcgakdobaaGreatDoor.Spl
