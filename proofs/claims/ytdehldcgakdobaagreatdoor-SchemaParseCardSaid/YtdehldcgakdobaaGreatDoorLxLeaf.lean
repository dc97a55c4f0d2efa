/- Package lexer: the kinds of bytes, and span. -/
import Derived.Test.YtdehldcgakdobaaGreatDoorLxBytes
namespace Go.Proofs.YtdehldcgakdobaaGreatDoor.Lx
open Go.RowKit Go.Lib Go.Proofs.YtdehldcgakdobaaGreatDoor.Bas Go.Proofs.YtdehldcgakdobaaGreatDoor.Cal
set_option linter.unusedVariables false

/-- A bool; the world as it was. -/
def BoolSame (b : Bool) (w : World) (e : Ending) (w' : World) : Prop := e = .returned (.bool b) ∧ w = w'
def IntSame (n : Int) (w : World) (e : Ending) (w' : World) : Prop := e = .returned (.int .i64 n) ∧ w = w'
theorem u8_lt (c : UInt8) : c.toNat ≤ 255 := by have := UInt8.toNat_lt c; omega
theorem isLetter_any (c : UInt8) (w : World) : Calls Tryz.prog 81 #[.int .u8 (c.toNat : Int)] w (BoolSame (ltr c) w) := by
  unfold ltr
  generalize c.toNat = n
  by_cases h1 : (97 : Int) ≤ (n : Int)
  · have t1 : decide ((97 : Int) ≤ (n : Int)) = true := decide_eq_true h1
    by_cases h2 : (n : Int) ≤ 122
    · rw [show decide (97 ≤ n ∧ n ≤ 122) = true by simp; omega]
      have t2 : decide ((n : Int) ≤ 122) = true := decide_eq_true h2
      clear h1 h2
      go_enter Tryz.func81, Tryz.ntmps81
      go_wp2
      go_ret
      exact ⟨rfl, rfl⟩
    · rw [show decide (97 ≤ n ∧ n ≤ 122) = false by simp; omega]
      have t2 : decide ((n : Int) ≤ 122) = false := decide_eq_false h2
      clear h1 h2
      go_enter Tryz.func81, Tryz.ntmps81
      go_wp2
      go_ret
      exact ⟨rfl, rfl⟩
  · rw [show decide (97 ≤ n ∧ n ≤ 122) = false by simp; omega]
    have t1 : decide ((97 : Int) ≤ (n : Int)) = false := decide_eq_false h1
    clear h1
    go_enter Tryz.func81, Tryz.ntmps81
    go_wp2
    go_ret
    exact ⟨rfl, rfl⟩
theorem isDigit_any (c : UInt8) (w : World) : Calls Tryz.prog 96 #[.int .u8 (c.toNat : Int)] w (BoolSame (dgt c) w) := by
  unfold dgt
  generalize c.toNat = n
  by_cases h1 : (48 : Int) ≤ (n : Int)
  · have t1 : decide ((48 : Int) ≤ (n : Int)) = true := decide_eq_true h1
    by_cases h2 : (n : Int) ≤ 57
    · rw [show decide (48 ≤ n ∧ n ≤ 57) = true by simp; omega]
      have t2 : decide ((n : Int) ≤ 57) = true := decide_eq_true h2
      clear h1 h2
      go_enter Tryz.func96, Tryz.ntmps96
      go_wp2
      go_ret
      exact ⟨rfl, rfl⟩
    · rw [show decide (48 ≤ n ∧ n ≤ 57) = false by simp; omega]
      have t2 : decide ((n : Int) ≤ 57) = false := decide_eq_false h2
      clear h1 h2
      go_enter Tryz.func96, Tryz.ntmps96
      go_wp2
      go_ret
      exact ⟨rfl, rfl⟩
  · rw [show decide (48 ≤ n ∧ n ≤ 57) = false by simp; omega]
    have t1 : decide ((48 : Int) ≤ (n : Int)) = false := decide_eq_false h1
    clear h1
    go_enter Tryz.func96, Tryz.ntmps96
    go_wp2
    go_ret
    exact ⟨rfl, rfl⟩
theorem inWord_any (c : UInt8) (w : World) : Calls Tryz.prog 83 #[.int .u8 (c.toNat : Int)] w (BoolSame (inW c) w) := by
  have c1 := Lib.hid (isLetter_any c)
  have c2 := Lib.hid (isDigit_any c)
  unfold inW
  generalize ltr c = a at *
  generalize dgt c = b at *
  generalize c.toNat = n at *
  cases a <;> cases b <;> by_cases h : n = 45
  all_goals
    first | (have t : ((n : Int) == 45) = true := by simp; omega) | (have t : ((n : Int) == 45) = false := by simp; omega)
    first | rw [show decide (n = 45) = true from decide_eq_true h] | rw [show decide (n = 45) = false from decide_eq_false h]
    clear h
    go_enter Tryz.func83, Tryz.ntmps83
    go_wp2_with (first | (go_at_call 81; refine (c1.out _).mono ?_; rintro e w' ⟨rfl, rfl⟩) | (go_at_call 96; refine (c2.out _).mono ?_; rintro e w' ⟨rfl, rfl⟩))
    go_ret
    exact ⟨rfl, rfl⟩
set_option maxHeartbeats 1000000 in
theorem span_inWord (s : ByteArray) (w : World) (hs : s.size ≤ 4611686018427387904) : Calls Tryz.prog 82 #[.string s, .func (.func 83) #[] #[]] w (IntSame (spn inW (bl s)) w) := by
  have c := Lib.hid inWord_any
  have hsz := Lib.hid (bl_size s)
  have hget := Lib.hid (bl_get s)
  have heq := Lib.hid (spn_eq inW (bl s))
  go_enter Tryz.func82, Tryz.ntmps82
  go_wp2_with fail
  go_loop [5] (fun i => ∃ k : Nat, k ≤ s.size ∧ i = .int .i64 k ∧ Hid (∀ j, j < k → inW ((bl s).getD j 0) = true)) (fun i => s.size - (intOf i).toNat)
  case atStart => exact ⟨0, Nat.zero_le _, rfl, Lib.hid (fun j hj => by omega)⟩
  case round =>
    obtain ⟨k, hk, rfl, hP⟩ := hrel
    by_cases hlt : k < s.size
    · have hg := Lib.hid (hget.out k hlt)
      obtain ⟨b, hb⟩ : ∃ b, inW s[k] = b := ⟨_, rfl⟩
      have c1 := Lib.hid (c.out s[k])
      rw [hb] at c1
      have hb' := Lib.hid hb
      clear hb
      cases b
      · have hv : Hid (spn inW (bl s) = k) := Lib.hid (heq.out k (by rw [hsz.out]; omega) hP.out (fun _ => by rw [hg.out, hb'.out]))
        go_wp2_with (refine (c1.out _).mono ?_; rintro e w' ⟨rfl, rfl⟩)
        go_ret
        exact ⟨by rw [hv.out]; rfl, rfl⟩
      · have hP' : Hid (∀ j, j < k + 1 → inW ((bl s).getD j 0) = true) := Lib.hid (fun j hj => by
          by_cases e : j < k
          · exact hP.out j e
          · obtain rfl : j = k := by omega
            rw [hg.out, hb'.out])
        go_wp2_with (refine (c1.out _).mono ?_; rintro e w' ⟨rfl, rfl⟩)
        go_round
        case rel => exact ⟨k + 1, by omega, by go_num, hP'⟩
        case measure => simp [intOf]; omega
    · obtain rfl : k = s.size := by omega
      have hv : Hid (spn inW (bl s) = s.size) := Lib.hid (heq.out s.size (by rw [hsz.out]; omega) hP.out (fun h => by rw [hsz.out] at h; omega))
      go_wp2_with fail
      go_ret
      exact ⟨by rw [hv.out]; rfl, rfl⟩
set_option maxHeartbeats 1000000 in
theorem span_isDigit (s : ByteArray) (w : World) (hs : s.size ≤ 4611686018427387904) : Calls Tryz.prog 82 #[.string s, .func (.func 96) #[] #[]] w (IntSame (spn dgt (bl s)) w) := by
  have c := Lib.hid isDigit_any
  have hsz := Lib.hid (bl_size s)
  have hget := Lib.hid (bl_get s)
  have heq := Lib.hid (spn_eq dgt (bl s))
  go_enter Tryz.func82, Tryz.ntmps82
  go_wp2_with fail
  go_loop [5] (fun i => ∃ k : Nat, k ≤ s.size ∧ i = .int .i64 k ∧ Hid (∀ j, j < k → dgt ((bl s).getD j 0) = true)) (fun i => s.size - (intOf i).toNat)
  case atStart => exact ⟨0, Nat.zero_le _, rfl, Lib.hid (fun j hj => by omega)⟩
  case round =>
    obtain ⟨k, hk, rfl, hP⟩ := hrel
    by_cases hlt : k < s.size
    · have hg := Lib.hid (hget.out k hlt)
      obtain ⟨b, hb⟩ : ∃ b, dgt s[k] = b := ⟨_, rfl⟩
      have c1 := Lib.hid (c.out s[k])
      rw [hb] at c1
      have hb' := Lib.hid hb
      clear hb
      cases b
      · have hv : Hid (spn dgt (bl s) = k) := Lib.hid (heq.out k (by rw [hsz.out]; omega) hP.out (fun _ => by rw [hg.out, hb'.out]))
        go_wp2_with (refine (c1.out _).mono ?_; rintro e w' ⟨rfl, rfl⟩)
        go_ret
        exact ⟨by rw [hv.out]; rfl, rfl⟩
      · have hP' : Hid (∀ j, j < k + 1 → dgt ((bl s).getD j 0) = true) := Lib.hid (fun j hj => by
          by_cases e : j < k
          · exact hP.out j e
          · obtain rfl : j = k := by omega
            rw [hg.out, hb'.out])
        go_wp2_with (refine (c1.out _).mono ?_; rintro e w' ⟨rfl, rfl⟩)
        go_round
        case rel => exact ⟨k + 1, by omega, by go_num, hP'⟩
        case measure => simp [intOf]; omega
    · obtain rfl : k = s.size := by omega
      have hv : Hid (spn dgt (bl s) = s.size) := Lib.hid (heq.out s.size (by rw [hsz.out]; omega) hP.out (fun h => by rw [hsz.out] at h; omega))
      go_wp2_with fail
      go_ret
      exact ⟨by rw [hv.out]; rfl, rfl⟩
end Go.Proofs.YtdehldcgakdobaaGreatDoor.Lx
