/- Package lexer: words, marks, amounts. -/
import Derived.Test.YtdehldcgakdobaaGreatDoorLxLeaf

namespace Go.Proofs.YtdehldcgakdobaaGreatDoor.Lx
open Go.RowKit Go.Lib Go.Proofs.YtdehldcgakdobaaGreatDoor.Bas Go.Proofs.YtdehldcgakdobaaGreatDoor.Cal
set_option linter.unusedVariables false

theorem toList_bl (s : ByteArray) : s.toList = bl s := ByteArray.toList_eq s
theorem isEmpty_no (s : ByteArray) (h : 0 < s.size) : s.toList.isEmpty = false := by
  rw [toList_bl]
  have := bl_size s
  cases hb : bl s with
  | nil => rw [hb] at this; simp at this; omega
  | cons c r => rfl
theorem bl_nil (s : ByteArray) (h : s.size = 0) : s = { data := #[] } := by
  have h1 : bl s = [] := List.length_eq_zero_iff.1 (by rw [bl_size]; exact h)
  rw [← tx_bl s, h1]; rfl
theorem wordB_bl (s : ByteArray) (h : 0 < s.size) : wordB (bl s) = decide (s.size ≤ 16 ∧ ltr s[0] = true ∧ (s[s.size - 1]'(by omega)).toNat ≠ 45 ∧ spn inW (bl s) = s.size) := by
  unfold wordB
  congr 1
  rw [bl_size, bl_get s 0 h, bl_get s (s.size - 1) (by omega), ← spn_all, bl_size]
  simp
  omega

theorem isWord_empty (w : World) : Calls Tryz.prog 65 #[.string { data := #[] }] w (BoolSame false w) := by
  go_enter Tryz.func65, Tryz.ntmps65
  go_wp2_with fail
  go_ret
  exact ⟨rfl, rfl⟩
theorem isWord_long (s : ByteArray) (w : World) (h1 : 16 < s.size) (h2 : s.size ≤ 9223372036854775807) : Calls Tryz.prog 65 #[.string s] w (BoolSame false w) := by
  have e := isEmpty_no s (by omega)
  have t1 : decide ((16 : Int) < (s.size : Int)) = true := by simp; omega
  have t2 : decide (16 < s.size) = true := by simp; omega
  go_enter Tryz.func65, Tryz.ntmps65
  go_wp2_with fail
  all_goals (try (exfalso; omega; done))
  go_ret
  exact ⟨rfl, rfl⟩
theorem isWord_mid (s : ByteArray) (w : World) (h0 : 0 < s.size) (h1 : s.size ≤ 16) (a b : Bool) (ha : ltr s[0] = a) (hb : ((s[s.size - 1]'(by omega)).toNat : Int) = 45 ↔ b = true) (r : Bool) (hr : r = decide (s.size ≤ 16 ∧ a = true ∧ ¬ (b = true) ∧ spn inW (bl s) = s.size)) :
    Calls Tryz.prog 65 #[.string s] w (BoolSame r w) := by
  have e := isEmpty_no s h0
  have c1 := Lib.hid (isLetter_any s[0])
  rw [ha] at c1
  have c2 := Lib.hid (span_inWord s w (by omega))
  have hsp := spn_le inW (bl s)
  rw [bl_size] at hsp
  have i1 : (0 : Int) ≤ (s.size : Int) - 1 := by omega
  have i2 : (s.size : Int) - 1 < (s.size : Int) := by omega
  have i3 : ((s.size : Int) - 1).toNat = s.size - 1 := by omega
  have i4 : IntKind.i64.wrap ((s.size : Int) - 1) = (s.size : Int) - 1 := IntWalk.i64_in _ (by omega)
  have i5 : s.size - 1 < s.size := by omega
  have t1 : decide ((16 : Int) < (s.size : Int)) = false := by simp; omega
  have t2 : decide (16 < s.size) = false := by simp; omega
  generalize spn inW (bl s) = k at *
  have hr' := Lib.hid hr
  clear hr ha
  cases a with
  | false =>
    obtain rfl : r = false := by rw [hr'.out]; simp
    clear hb
    go_enter Tryz.func65, Tryz.ntmps65
    go_wp2_with (go_at_call 81; refine (c1.out _).mono ?_; rintro e w' ⟨rfl, rfl⟩)
    all_goals (try (exfalso; omega; done))
    go_ret
    exact ⟨rfl, rfl⟩
  | true =>
    cases b with
    | true =>
      obtain rfl : r = false := by rw [hr'.out]; simp
      have q : (((s[s.size - 1]'(by omega)).toNat : Int) == 45) = true := by simpa using hb.2 rfl
      clear hb
      go_enter Tryz.func65, Tryz.ntmps65
      go_wp2_with (go_at_call 81; refine (c1.out _).mono ?_; rintro e w' ⟨rfl, rfl⟩)
      all_goals (try (exfalso; omega; done))
      go_ret
      exact ⟨rfl, rfl⟩
    | false =>
      have q : (((s[s.size - 1]'(by omega)).toNat : Int) == 45) = false := by
        have : ¬ (((s[s.size - 1]'(by omega)).toNat : Int) = 45) := fun h => by simpa using hb.1 h
        simpa using this
      clear hb
      by_cases hk : k = s.size
      · obtain rfl : r = true := by rw [hr'.out]; simp [hk]; omega
        have u1 : ((k : Int) == (s.size : Int)) = true := by simp; omega
        clear hk
        go_enter Tryz.func65, Tryz.ntmps65
        go_wp2_with (go_at_call 81; refine (c1.out _).mono ?_; rintro e w' ⟨rfl, rfl⟩)
        all_goals (try (exfalso; omega; done))
        refine c2.out.mono ?_; rintro e w' ⟨rfl, rfl⟩
        go_wp2_with fail
        go_ret
        exact ⟨rfl, rfl⟩
      · obtain rfl : r = false := by rw [hr'.out]; simp [hk]
        have u1 : ((k : Int) == (s.size : Int)) = false := by simp; omega
        clear hk
        go_enter Tryz.func65, Tryz.ntmps65
        go_wp2_with (go_at_call 81; refine (c1.out _).mono ?_; rintro e w' ⟨rfl, rfl⟩)
        all_goals (try (exfalso; omega; done))
        refine c2.out.mono ?_; rintro e w' ⟨rfl, rfl⟩
        go_wp2_with fail
        go_ret
        exact ⟨rfl, rfl⟩
theorem isWord_any (s : ByteArray) (w : World) (hs : s.size ≤ 9223372036854775807) : Calls Tryz.prog 65 #[.string s] w (BoolSame (wordB (bl s)) w) := by
  by_cases h0 : 0 < s.size
  · by_cases h1 : 16 < s.size
    · rw [wordB_bl s h0, decide_eq_false (by omega)]
      exact isWord_long s w h1 hs
    · rw [wordB_bl s h0]
      refine isWord_mid s w h0 (by omega) (ltr s[0]) (decide ((s[s.size - 1]'(by omega)).toNat = 45)) rfl ?_ _ ?_
      · simp; omega
      · congr 1; simp
  · obtain rfl := bl_nil s (by omega)
    exact isWord_empty w
end Go.Proofs.YtdehldcgakdobaaGreatDoor.Lx
