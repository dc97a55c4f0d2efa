/- Marks and amounts; the reference's letters, digits, words, names and marks. -/
import Derived.Test.YtaengcbjpniclaaGreatDoorLxRes
namespace Go.Proofs.YtaengcbjpniclaaGreatDoor.Lx
open Go.RowKit Go.Lib Go.Proofs.YtaengcbjpniclaaGreatDoor.Bas Go.Proofs.YtaengcbjpniclaaGreatDoor.Cal
set_option linter.unusedVariables false

theorem mark_len (l : List UInt8) (h : l.length ≠ 1) : markB l = false := by
  unfold markB
  apply decide_eq_false
  rintro (h2 | h2 | h2 | h2 | h2) <;> rw [h2] at h <;> exact h rfl
theorem mark_one (c : UInt8) : decide (0 ≤ Lib.indexByte [59, 58, 44, 40, 41] c) = markB [c] := by
  have h : ∀ n, n < 256 → decide (0 ≤ Lib.indexByte [59, 58, 44, 40, 41] (UInt8.ofNat n)) = markB [UInt8.ofNat n] := by decide +kernel
  have := h c.toNat (UInt8.toNat_lt c)
  rwa [UInt8.ofNat_toNat] at this
theorem bl_one (s : ByteArray) (h : s.size = 1) : ∃ c, s = { data := #[c] } ∧ bl s = [c] := by
  have h2 := bl_size s
  rw [h] at h2
  match hb : bl s, h2 with
  | [c], _ => exact ⟨c, by rw [← tx_bl s, hb]; rfl, rfl⟩
theorem isMark_any (s : ByteArray) (w : World) : Calls Tryz.prog 13 #[.string s] w (BoolSame (markB (bl s)) w) := by
  by_cases h : s.size = 1
  · obtain ⟨c, rfl, hb⟩ := bl_one s h
    rw [hb, ← mark_one]
    have k := Lib.hid (Tryz.strings_Contains_one { data := #[59, 58, 44, 40, 41] } c w)
    rw [show ({ data := #[59, 58, 44, 40, 41] } : ByteArray).data.toList = [59, 58, 44, 40, 41] from rfl] at k
    generalize decide (0 ≤ Lib.indexByte [59, 58, 44, 40, 41] c) = b at *
    clear h hb
    go_enter Tryz.func13, Tryz.ntmps13
    go_wp2_with (go_at_call 33; refine k.out.mono ?_; rintro e w' ⟨rfl, rfl⟩)
    go_ret
    exact ⟨rfl, rfl⟩
  · rw [mark_len (bl s) (by rw [bl_size]; exact h)]
    have t : ((s.size : Int) == 1) = false := by simp; omega
    clear h
    go_enter Tryz.func13, Tryz.ntmps13
    go_wp2_with fail
    go_ret
    exact ⟨rfl, rfl⟩
theorem isAmount_any (n : Int) (w : World) : Calls Tryz.prog 46 #[.int .i64 n] w (BoolSame (decide (-17592186044416 ≤ n ∧ n ≤ 17592186044416)) w) := by
  by_cases h1 : -17592186044416 ≤ n
  · have t1 : decide (-17592186044416 ≤ n) = true := decide_eq_true h1
    by_cases h2 : n ≤ 17592186044416
    · have t2 : decide (n ≤ 17592186044416) = true := decide_eq_true h2
      rw [decide_eq_true ⟨h1, h2⟩]
      clear h1 h2
      go_enter Tryz.func46, Tryz.ntmps46
      go_wp2_with fail
      go_ret
      exact ⟨rfl, rfl⟩
    · have t2 : decide (n ≤ 17592186044416) = false := decide_eq_false h2
      rw [decide_eq_false (fun h => h2 h.2)]
      clear h1 h2
      go_enter Tryz.func46, Tryz.ntmps46
      go_wp2_with fail
      go_ret
      exact ⟨rfl, rfl⟩
  · have t1 : decide (-17592186044416 ≤ n) = false := decide_eq_false h1
    rw [decide_eq_false (fun h => h1 h.1)]
    clear h1
    go_enter Tryz.func46, Tryz.ntmps46
    go_wp2_with fail
    go_ret
    exact ⟨rfl, rfl⟩
end Go.Proofs.YtaengcbjpniclaaGreatDoor.Lx
