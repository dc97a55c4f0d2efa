/- A map of ints to ints that the call has made, as a function. -/
import Derived.Test.YtcdfedkcefhdiaaBase
import Derived.Maps.OwnOps
import Derived.Maps.Views
namespace Go.Proofs.Ytcdfedkcefhdiaa.Mp
open Go.RowKit Go.Lib Go.Maps Go.Proofs.Ytcdfedkcefhdiaa.Bas
set_option linter.unusedVariables false

theorem lawI : Keyed Try.prog 3 := int_keyed Try.underlying3
theorem zeroI (w : World) : (zeroValue 3).run Try.prog w = .ok (.int .i64 0) w := by kernel_rfl
/-- What a datum holds at a number: the function f, everywhere. -/
def Holds (D : DataW Unit) (f : Int → Int) : Prop := IsMap D ∧ ∀ c : Int, D.atKey (.int .i64 c) (.lit (.int .i64 0)) = .lit (.int .i64 (f c))
theorem holds_nil : Holds (.map []) (fun _ => 0) := ⟨isMap_empty, fun c => rfl⟩
theorem Holds.put {D : DataW Unit} {f : Int → Int} (h : Holds D f) (c v : Int) : Holds (D.put (.int .i64 c) (.lit (.int .i64 v))) (fun x => if x = c then v else f x) := by
  refine ⟨h.1.put _ _, fun x => ?_⟩
  by_cases e : x = c
  · subst e; show _ = DataW.lit (.int .i64 (if x = x then v else f x)); rw [if_pos rfl]; exact atKey_put_same h.1 (show WideAt.IsKeyLit (.int .i64 x) from trivial) _ _
  · show _ = DataW.lit (.int .i64 (if x = c then v else f x)); rw [if_neg e, atKey_put_other (fun g => e (by cases g; rfl))]; exact h.2 x
theorem Holds.val {D : DataW Unit} {f : Int → Int} (h : Holds D f) {c v : Int} (hat : D.atKey (.int .i64 c) (.lit (.int .i64 0)) = .lit (.int .i64 v)) : v = f c := by
  have := hat.symm.trans (h.2 c); simpa using this
/-- Block b is such a map, of at most k entries. -/
def MapF (w : World) (b k : Nat) (f : Int → Int) : Prop := ∃ D : DataW Unit, Holds D f ∧ w.ownsMap Try.prog 3 (plainElem Try.prog 3) b k D
theorem MapF.made (w : World) : MapF (w.alloc (.map #[] 0)) w.heap.size 0 (fun _ => 0) := ⟨_, holds_nil, World.ownsMap_made _ _ _ _⟩
theorem MapF.congr {w : World} {b k : Nat} {f g : Int → Int} (h : MapF w b k f) (e : ∀ c, f c = g c) : MapF w b k g := by
  rw [show g = f from funext fun c => (e c).symm]; exact h
theorem MapF.mono {w : World} {b k k' : Nat} {f : Int → Int} (h : MapF w b k f) (e : k ≤ k') : MapF w b k' f := by
  obtain ⟨D, a, b⟩ := h; exact ⟨D, a, b.mono e⟩
theorem MapF.lt {w : World} {b k : Nat} {f : Int → Int} (h : MapF w b k f) : b < w.heap.size := by
  obtain ⟨D, a, b⟩ := h; exact b.lt
theorem MapF.alloc {w : World} {b k : Nat} {f : Int → Int} (h : MapF w b k f) (o : Obj) : MapF (w.alloc o) b k f := by
  obtain ⟨D, a, c⟩ := h; exact ⟨D, a, c.alloc o⟩
theorem MapF.drewN {w : World} {b k : Nat} {f : Int → Int} (h : MapF w b k f) (n : Nat) : MapF (w.drewN n) b k f := h
theorem MapF.below {w w' : World} {b k C : Nat} {f : Int → Int} (h : MapF w b k f) (hB : Below C w w') (hb : b < C) : MapF w' b k f := by
  obtain ⟨D, a, es, clock, h1, h2⟩ := h
  exact ⟨D, a, es, clock, by rw [hB.block b hb]; exact h1, h2⟩
theorem MapF.grown {w w' : World} {b k : Nat} {f : Int → Int} {row : Option Nat} (h : MapF w b k f) (hg : w.grownBy w' row) (hne : some b ≠ row) : MapF w' b k f := by
  obtain ⟨D, a, c⟩ := h; exact ⟨D, a, c.kept hg hne⟩
end Go.Proofs.Ytcdfedkcefhdiaa.Mp
