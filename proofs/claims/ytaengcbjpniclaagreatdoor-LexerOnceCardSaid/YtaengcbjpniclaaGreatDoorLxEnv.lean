/- What a call finds in memory: the table of the months' lengths, that of the powers of ten, the error of a range. -/
import Derived.Test.YtaengcbjpniclaaGreatDoorLxMark
import Derived.Lib.AppendIntMem
namespace Go.Proofs.YtaengcbjpniclaaGreatDoor.Lx
open Go.RowKit Go.Lib Go.Proofs.YtaengcbjpniclaaGreatDoor.Bas Go.Proofs.YtaengcbjpniclaaGreatDoor.Cal
set_option linter.unusedVariables false

def Env (w : World) : Prop := Tab w ∧ Lib.TabIs Tryz.prog w powName .u64 Lib.pow10Tab ∧ ∃ tp p, w.var? Tryz.prog "strconv.ErrRange" = some #[.iface tp p]
theorem var_keep {w w' : World} {nm : String} {cs : Array Value} (h : w.var? Tryz.prog nm = some cs) (hb : Below w.heap.size w w') : w'.var? Tryz.prog nm = some cs := by
  unfold World.var? at h ⊢
  cases hg : Tryz.prog.globalNamed nm with
  | none => rw [hg] at h; simp at h
  | some g =>
    rw [hg] at h
    simp only [Option.bind_some] at h ⊢
    have hlt : g < w.heap.size := by
      by_cases e : g < w.heap.size
      · exact e
      · rw [Array.getElem?_eq_none (by omega)] at h; simp at h
    rw [hb.block g hlt]
    exact h
theorem Env.keep {w w' : World} (h : Env w) (hb : Below w.heap.size w w') : Env w' := by
  obtain ⟨h1, h2, tp, p, h3⟩ := h
  exact ⟨h1.keep hb, var_keep h2 hb, tp, p, var_keep h3 hb⟩
theorem Env.drewN {w : World} (h : Env w) (n : Nat) : Env (w.drewN n) := h
theorem Env.drew {w : World} (h : Env w) : Env w.drew := h
theorem Env.alloc {w : World} (h : Env w) (o : Obj) : Env (w.alloc o) := h.keep ((Below.refl _ _).alloc (Nat.le_refl _) o)

/-- A token as a value. -/
def tkV (t : Tk) : Value := .agg #[.int .i64 t.k, .string (tx t.t), .int .i64 t.n, .int .i64 t.p]
/-- A token, a number of bytes, an error. -/
def TokOut (x : Tk × Nat × Int) (w : World) (e : Ending) (w' : World) : Prop := e = .returned (.tuple #[tkV x.1, .int .i64 (x.2.1 : Int), .int .i64 x.2.2]) ∧ Below w.heap.size w w'
theorem tx_extract (s : ByteArray) (a b : Nat) (h : b ≤ s.size) : s.extract a b = tx (((bl s).take b).drop a) := by
  rw [← bl_extract s a b h, tx_bl]
theorem bl_take (s : ByteArray) (b : Nat) (h : b ≤ s.size) : bl (s.extract 0 b) = (bl s).take b := by rw [bl_extract s 0 b h, List.drop_zero]
theorem bl_drop (s : ByteArray) (a : Nat) : bl (s.extract a s.size) = (bl s).drop a := by
  rw [bl_extract s a s.size (Nat.le_refl _), List.take_of_length_le (by rw [bl_size]; omega)]
theorem z0_nil : tx z0.t = { data := #[] } := rfl
end Go.Proofs.YtaengcbjpniclaaGreatDoor.Lx
