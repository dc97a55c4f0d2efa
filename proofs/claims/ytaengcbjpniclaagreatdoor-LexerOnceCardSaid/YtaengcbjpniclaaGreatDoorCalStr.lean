/- Texts of hours: digits and forms (the calendar's number, isDigit, hasForm; the reference's number). -/
import Derived.Test.YtaengcbjpniclaaGreatDoorCalHour
namespace Go.Proofs.YtaengcbjpniclaaGreatDoor.Cal
open Go.RowKit Go.Lib Go.Proofs.YtaengcbjpniclaaGreatDoor.Bas
set_option linter.unusedVariables false

/-- The byte at i. -/
def bz (s : ByteArray) (i : Nat) : Nat := if h : i < s.size then s[i].toNat else 0
theorem bz_at (s : ByteArray) (i : Nat) (h : i < s.size) : bz s i = s[i].toNat := by unfold bz; rw [dif_pos h]
theorem bz_lt (s : ByteArray) (i : Nat) : bz s i ≤ 255 := by
  unfold bz; split
  · have := UInt8.toNat_lt s[i]; omega
  · omega
def dgB (c : Nat) : Bool := decide (48 ≤ c ∧ c ≤ 57)
/-- The number that n digits from i on are written for. -/
def val (s : ByteArray) (i : Nat) : Nat → Int
  | 0 => 0
  | n + 1 => val s i n * 10 + ((bz s (i + n) : Int) - 48)
def digs (s : ByteArray) (i n : Nat) : Prop := ∀ j, j < n → dgB (bz s (i + j)) = true
instance (s : ByteArray) (i n : Nat) : Decidable (digs s i n) := by unfold digs; infer_instance
theorem dgB_iff (c : Nat) : dgB c = true ↔ 48 ≤ c ∧ c ≤ 57 := by unfold dgB; simp
theorem val_bd (s : ByteArray) (i n : Nat) (h : digs s i n) : 0 ≤ val s i n ∧ val s i n < 10 ^ n := by
  induction n with
  | zero => simp [val]
  | succ n ih =>
    have a := ih (fun j hj => h j (by omega))
    have b := (dgB_iff _).1 (h n (by omega))
    unfold val
    rw [Int.pow_succ]
    omega
theorem val_bd4 (s : ByteArray) (i n : Nat) (hn : n ≤ 4) (h : digs s i n) : 0 ≤ val s i n ∧ val s i n ≤ 9999 := by
  have := val_bd s i n h
  have h4 : (10 : Int) ^ n ≤ 10 ^ 4 := by
    rcases (show n = 0 ∨ n = 1 ∨ n = 2 ∨ n = 3 ∨ n = 4 by omega) with e | e | e | e | e <;> subst e <;> decide
  have h5 : (10 : Int) ^ 4 = 10000 := by decide
  omega
theorem bz_extract (s : ByteArray) (a b j : Nat) (hb : b ≤ s.size) (hj : j < b - a) : bz (s.extract a b) j = bz s (a + j) := by
  have h1 : j < (s.extract a b).size := by rw [ByteArray.size_extract]; omega
  rw [bz_at _ _ h1, bz_at _ _ (by omega)]
  congr 1
  simp [ByteArray.getElem_extract]
theorem val_extract (s : ByteArray) (a b n : Nat) (hb : b ≤ s.size) (hn : n ≤ b - a) : val (s.extract a b) 0 n = val s a n := by
  induction n with
  | zero => rfl
  | succ n ih =>
    unfold val
    rw [ih (by omega), Nat.zero_add, bz_extract s a b n hb (by omega)]
theorem digs_extract (s : ByteArray) (a b n : Nat) (hb : b ≤ s.size) (hn : n ≤ b - a) (h : digs s a n) : digs (s.extract a b) 0 n := fun j hj => by
  rw [Nat.zero_add, bz_extract s a b j hb (by omega)]; exact h j hj

set_option maxHeartbeats 1000000 in
theorem number_any (s : ByteArray) (w : World) (hs : s.size ≤ 4) (hd : digs s 0 s.size) :
    Calls Tryz.prog 66 #[.string s] w fun e w' => e = .returned (.int .i64 (val s 0 s.size)) ∧ w = w' := by
  have hd' := Lib.hid hd
  clear hd
  go_enter Tryz.func66, Tryz.ntmps66
  go_wp2_with fail
  go_loop [3, 7] (fun n i => ∃ k : Nat, k ≤ s.size ∧ i = .int .i64 k ∧ n = .int .i64 (val s 0 k)) (fun _ i => s.size - (intOf i).toNat)
  case atStart => exact ⟨0, Nat.zero_le _, rfl, rfl⟩
  case round =>
    obtain ⟨k, hk, rfl, rfl⟩ := hrel
    have vb := val_bd4 s 0 k (by omega) (fun j hj => hd'.out j (by omega))
    have vb1 := vb.1
    have vb2 := vb.2
    clear vb
    by_cases hlt : k < s.size
    · have b := (dgB_iff _).1 (hd'.out k hlt)
      rw [Nat.zero_add, bz_at s k hlt] at b
      have hv : Hid (val s 0 (k + 1) = val s 0 k * 10 + ((s[k].toNat : Int) - 48)) := Lib.hid (by show val s 0 k * 10 + ((bz s (0 + k) : Int) - 48) = _; rw [Nat.zero_add, bz_at s k hlt])
      have b1 := b.1
      have b2 := b.2
      clear b
      go_wp2
      go_round
      case rel => exact ⟨k + 1, by omega, by go_num, by rw [hv.out]⟩
      case measure => simp [intOf]; omega
    · obtain rfl : k = s.size := by omega
      go_wp2
      go_ret
      exact ⟨rfl, rfl⟩

theorem isDigit_any (c : Nat) (w : World) (hc : c ≤ 255) (b : Bool) (hb : dgB c = b) :
    Calls Tryz.prog 83 #[.int .u8 c] w fun e w' => e = .returned (.bool b) ∧ w = w' := by
  subst hb
  by_cases h1 : (48 : Int) ≤ (c : Int)
  · have t1 : decide ((48 : Int) ≤ (c : Int)) = true := decide_eq_true h1
    by_cases h2 : (c : Int) ≤ 57
    · rw [show dgB c = true by unfold dgB; simp; omega]
      have t2 : decide ((c : Int) ≤ 57) = true := decide_eq_true h2
      clear h1 h2
      go_enter Tryz.func83, Tryz.ntmps83
      go_wp2
      go_ret
      exact ⟨rfl, rfl⟩
    · rw [show dgB c = false by unfold dgB; simp; omega]
      have t2 : decide ((c : Int) ≤ 57) = false := decide_eq_false h2
      clear h1 h2
      go_enter Tryz.func83, Tryz.ntmps83
      go_wp2
      go_ret
      exact ⟨rfl, rfl⟩
  · rw [show dgB c = false by unfold dgB; simp; omega]
    have t1 : decide ((48 : Int) ≤ (c : Int)) = false := decide_eq_false h1
    clear h1
    go_enter Tryz.func83, Tryz.ntmps83
    go_wp2
    go_ret
    exact ⟨rfl, rfl⟩

/-- Does the byte at i fit the form? -/
def fitB (s f : ByteArray) (i : Nat) : Bool := if bz f i = 48 then dgB (bz s i) else decide (bz s i = bz f i)
def hasF (s f : ByteArray) : Prop := s.size = f.size ∧ ∀ i, i < s.size → fitB s f i = true
instance (s f : ByteArray) : Decidable (hasF s f) := by unfold hasF; infer_instance

theorem form_len (s f : ByteArray) (w : World) (hs : s.size ≠ f.size) (h1 : s.size ≤ 9223372036854775807) (h2 : f.size ≤ 13) :
    Calls Tryz.prog 65 #[.string s, .string f] w fun e w' => e = .returned (.bool false) ∧ w = w' := by
  have b : (((s.size : Int)) == (f.size : Int)) = false := by simp; omega
  have b2 : (((s.size : Int)) != (f.size : Int)) = true := by simp; omega
  clear hs
  go_enter Tryz.func65, Tryz.ntmps65
  go_wp2
  go_ret
  exact ⟨rfl, rfl⟩
/-- A bool; the world but for draws. -/
def BoolDr (b : Bool) (w : World) (e : Ending) (w' : World) : Prop := e = .returned (.bool b) ∧ Dr w w'
set_option maxHeartbeats 2000000 in
theorem form_eq (s f : ByteArray) (w : World) (hs : s.size = f.size) (h2 : f.size ≤ 13) (r : Bool) (hr : r = decide (∀ i, i < s.size → fitB s f i = true)) :
    Calls Tryz.prog 65 #[.string s, .string f] w (BoolDr r w) := by
  have hr' := Lib.hid hr
  have hs' := Lib.hid hs
  have c := Lib.hid (fun (n : Nat) (b : Bool) (hn : n ≤ 255) (hb : dgB n = b) w => isDigit_any n w hn b hb)
  have b1 : (((s.size : Int)) == (f.size : Int)) = true := by simp; omega
  have b2 : (((s.size : Int)) != (f.size : Int)) = false := by simp; omega
  have hle : s.size ≤ f.size := by omega
  clear hr hs
  go_enter Tryz.func65, Tryz.ntmps65
  go_wp2_with fail
  go_loopw [14] (fun i wr => ∃ k : Nat, k ≤ s.size ∧ i = .int .i64 k ∧ Hid (∀ j, j < k → fitB s f j = true) ∧ Dr w wr) (fun i _ => s.size - (intOf i).toNat)
  case atStart => exact ⟨0, Nat.zero_le _, rfl, Lib.hid (fun j hj => by omega), Dr.refl w⟩
  case round =>
    obtain ⟨k, hk, rfl, hP, hD⟩ := hrel
    by_cases hlt : k < s.size
    · have hlt2 : k < f.size := by omega
      have hx := bz_lt s k
      have hbs := bz_at s k hlt
      have hbf := bz_at f k hlt2
      rw [hbs] at hx
      have hx' := Lib.hid hx
      by_cases h48 : f[k].toNat = 48
      · have e2 : ((f[k].toNat : Int) == 48) = true := by simp; omega
        obtain ⟨b, hb⟩ : ∃ b, dgB s[k].toNat = b := ⟨_, rfl⟩
        have hfit : Hid (fitB s f k = b) := Lib.hid (by unfold fitB; rw [hbf, if_pos h48, hbs, hb])
        have c1 := Lib.hid (c.out s[k].toNat b hx hb)
        clear hb h48 hbs hbf hx
        cases b
        · have hno : Hid (r = false) := Lib.hid (by rw [hr'.out]; exact decide_eq_false (fun h => by have := h k hlt; rw [hfit.out] at this; cases this))
          go_wp2_with fail
          go_quiet (fail)
          go_wp2_with (refine (c1.out _).mono ?_; rintro e w' ⟨rfl, rfl⟩)
          go_ret
          exact ⟨by rw [hno.out]; rfl, Dr.trans hD ⟨_, rfl⟩⟩
        · go_wp2_with fail
          go_quiet (fail)
          go_wp2_with (refine (c1.out _).mono ?_; rintro e w' ⟨rfl, rfl⟩)
          go_roundw
          case rel => exact ⟨k + 1, by omega, by go_num, Lib.hid (fun j hj => by
            by_cases e : j < k
            · exact hP.out j e
            · obtain rfl : j = k := by omega
              exact hfit.out), Dr.trans hD ⟨_, rfl⟩⟩
          case measure => simp [intOf]; omega
      · have e2 : ((f[k].toNat : Int) == 48) = false := by simp; omega
        by_cases hxy : s[k].toNat = f[k].toNat
        · have e1 : ((s[k].toNat : Int) == (f[k].toNat : Int)) = true := by simp; omega
          have hfit : Hid (fitB s f k = true) := Lib.hid (by unfold fitB; rw [hbf, if_neg h48, hbs]; simpa using hxy)
          clear hxy h48 hbs hbf hx
          go_wp2_with fail
          go_quiet (fail)
          go_wp2_with fail
          go_roundw
          case rel => exact ⟨k + 1, by omega, by go_num, Lib.hid (fun j hj => by
            by_cases e : j < k
            · exact hP.out j e
            · obtain rfl : j = k := by omega
              exact hfit.out), Dr.trans hD ⟨_, rfl⟩⟩
          case measure => simp [intOf]; omega
        · have e1 : ((s[k].toNat : Int) == (f[k].toNat : Int)) = false := by simp; omega
          have hfit : Hid (fitB s f k = false) := Lib.hid (by unfold fitB; rw [hbf, if_neg h48, hbs]; simpa using hxy)
          have hno : Hid (r = false) := Lib.hid (by rw [hr'.out]; exact decide_eq_false (fun h => by have := h k hlt; rw [hfit.out] at this; cases this))
          clear hxy h48 hbs hbf hx
          go_wp2_with fail
          go_quiet (fail)
          go_wp2_with fail
          go_ret
          exact ⟨by rw [hno.out]; rfl, Dr.trans hD ⟨_, rfl⟩⟩
    · obtain rfl : k = s.size := by omega
      have hyes : Hid (r = true) := Lib.hid (by rw [hr'.out]; exact decide_eq_true hP.out)
      go_wp2_with fail
      go_ret
      exact ⟨by rw [hyes.out]; rfl, hD⟩
end Go.Proofs.YtaengcbjpniclaaGreatDoor.Cal
