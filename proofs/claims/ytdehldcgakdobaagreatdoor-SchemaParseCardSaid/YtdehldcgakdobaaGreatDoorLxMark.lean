/- Marks and amounts; the reference's letters, digits, words, names and marks. -/
import Derived.Test.YtdehldcgakdobaaGreatDoorLxRes
namespace Go.Proofs.YtdehldcgakdobaaGreatDoor.Lx
open Go.RowKit Go.Lib Go.Proofs.YtdehldcgakdobaaGreatDoor.Bas Go.Proofs.YtdehldcgakdobaaGreatDoor.Cal
set_option linter.unusedVariables false

theorem mark_len (l : List UInt8) (h : l.length ≠ 1) : markB l = false := by
  unfold markB
  apply decide_eq_false
  rintro (h2 | h2 | h2 | h2 | h2) <;> rw [h2] at h <;> exact h rfl
theorem bl_one (s : ByteArray) (h : s.size = 1) : ∃ c, s = { data := #[c] } ∧ bl s = [c] := by
  have h2 := bl_size s
  rw [h] at h2
  match hb : bl s, h2 with
  | [c], _ => exact ⟨c, by rw [← tx_bl s, hb]; rfl, rfl⟩
end Go.Proofs.YtdehldcgakdobaaGreatDoor.Lx
