/- Strings as lists of bytes. -/
import Derived.Test.YtdehldcgakdobaaGreatDoorBase
import Derived.Laws.IdiomStrings
import Derived.Laws.Concat
namespace Go.Proofs.YtdehldcgakdobaaGreatDoor.Cal
open Go.RowKit Go.Lib Go.Proofs.YtdehldcgakdobaaGreatDoor.Bas
set_option linter.unusedVariables false

/-- The text of a list of bytes. -/
def tx (l : List UInt8) : ByteArray := ⟨l.toArray⟩
theorem tx_size (l : List UInt8) : (tx l).size = l.length := by simp [tx, ByteArray.size]
theorem tx_append (x y : List UInt8) : tx x ++ tx y = tx (x ++ y) := by
  apply ByteArray.ext
  simp [tx]
theorem tx_add (x y : List UInt8) (P : Program) (w : World) (h : x.length + y.length ≤ 100) : (Op.stringOp .add (tx x) (tx y)).run P w = .ok (.string (tx (x ++ y))) w := by
  rw [← tx_append]
  exact run_string_add_sum w _ _ (by rw [tx_size, tx_size]; omega)

theorem tx_cat (x y : List UInt8) (P : Program) (w : World) (h : x.length + y.length ≤ 1000000) : (Op.stringOp .add (tx x) (tx y)).run P w = .ok (.string (tx (x ++ y))) w := by
  rw [← tx_append]
  exact run_string_add_sum w _ _ (by rw [tx_size, tx_size]; omega)
theorem alloc1 (w : World) (o : Obj) : Below w.heap.size w (w.alloc o) := (Below.refl _ _).alloc (Nat.le_refl _) _
theorem trans_at {a b c : World} (h : Below a.heap.size a b) (k : Below b.heap.size b c) : Below a.heap.size a c := h.trans (k.mono h.size)
end Go.Proofs.YtdehldcgakdobaaGreatDoor.Cal
