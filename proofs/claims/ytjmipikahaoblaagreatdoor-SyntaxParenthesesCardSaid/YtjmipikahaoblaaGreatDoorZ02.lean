/- Texts of hours: digits and forms (the calendar's number, isDigit, hasForm; the reference's number). Hour of the reference: the number of an hour of a day. (Written by gen_rhour.py.) Parse of package calendar: what it returns, for all texts. The reference's digits. Texts of hours, written: twoDigits and Format of package calendar, digits and FormatHour of the reference. The statements' own makers:  -/
import Derived.Test.YtjmipikahaoblaaGreatDoorZ01
import Derived.Test.YtjmipikahaoblaaGreatDoorZ00
import Derived.StillTailTactics
import Derived.Laws.IdiomStrings
import Derived.Laws.Concat
namespace Go.Proofs.YtjmipikahaoblaaGreatDoor.Cal
open Go.RowKit Go.Lib Go.Proofs.YtjmipikahaoblaaGreatDoor.Bas
set_option linter.unusedVariables false

/-- The byte at i. -/
def bz (s : ByteArray) (i : Nat) : Nat := if h : i < s.size then s[i].toNat else 0
theorem bz_at (s : ByteArray) (i : Nat) (h : i < s.size) : bz s i = s[i].toNat := by unfold bz; rw [dif_pos h]
theorem bz_lt (s : ByteArray) (i : Nat) : bz s i ≤ 255 := by
  unfold bz; split
  · have := UInt8.toNat_lt s[i]; omega
  · omega
def dgB (c : Nat) : Bool := decide (48 ≤ c ∧ c ≤ 57)
/-- The number that n digits from i on are written for. -/
def val (s : ByteArray) (i : Nat) : Nat → Int
  | 0 => 0
  | n + 1 => val s i n * 10 + ((bz s (i + n) : Int) - 48)
def digs (s : ByteArray) (i n : Nat) : Prop := ∀ j, j < n → dgB (bz s (i + j)) = true
instance (s : ByteArray) (i n : Nat) : Decidable (digs s i n) := by unfold digs; infer_instance
theorem dgB_iff (c : Nat) : dgB c = true ↔ 48 ≤ c ∧ c ≤ 57 := by unfold dgB; simp
theorem val_bd (s : ByteArray) (i n : Nat) (h : digs s i n) : 0 ≤ val s i n ∧ val s i n < 10 ^ n := by
  induction n with
  | zero => simp [val]
  | succ n ih =>
    have a := ih (fun j hj => h j (by omega))
    have b := (dgB_iff _).1 (h n (by omega))
    unfold val
    rw [Int.pow_succ]
    omega
theorem val_bd4 (s : ByteArray) (i n : Nat) (hn : n ≤ 4) (h : digs s i n) : 0 ≤ val s i n ∧ val s i n ≤ 9999 := by
  have := val_bd s i n h
  have h4 : (10 : Int) ^ n ≤ 10 ^ 4 := by
    rcases (show n = 0 ∨ n = 1 ∨ n = 2 ∨ n = 3 ∨ n = 4 by omega) with e | e | e | e | e <;> subst e <;> decide
  have h5 : (10 : Int) ^ 4 = 10000 := by decide
  omega
theorem bz_extract (s : ByteArray) (a b j : Nat) (hb : b ≤ s.size) (hj : j < b - a) : bz (s.extract a b) j = bz s (a + j) := by
  have h1 : j < (s.extract a b).size := by rw [ByteArray.size_extract]; omega
  rw [bz_at _ _ h1, bz_at _ _ (by omega)]
  congr 1
  simp [ByteArray.getElem_extract]
theorem val_extract (s : ByteArray) (a b n : Nat) (hb : b ≤ s.size) (hn : n ≤ b - a) : val (s.extract a b) 0 n = val s a n := by
  induction n with
  | zero => rfl
  | succ n ih =>
    unfold val
    rw [ih (by omega), Nat.zero_add, bz_extract s a b n hb (by omega)]
theorem digs_extract (s : ByteArray) (a b n : Nat) (hb : b ≤ s.size) (hn : n ≤ b - a) (h : digs s a n) : digs (s.extract a b) 0 n := fun j hj => by
  rw [Nat.zero_add, bz_extract s a b j hb (by omega)]; exact h j hj

set_option maxHeartbeats 1000000 in
theorem number_any (s : ByteArray) (w : World) (hs : s.size ≤ 4) (hd : digs s 0 s.size) :
    Calls Tryz.prog 167 #[.string s] w fun e w' => e = .returned (.int .i64 (val s 0 s.size)) ∧ w = w' := by
  have hd' := Lib.hid hd
  clear hd
  go_enter Tryz.func167, Tryz.ntmps167
  go_wp2_with fail
  go_loop [3, 7] (fun n i => ∃ k : Nat, k ≤ s.size ∧ i = .int .i64 k ∧ n = .int .i64 (val s 0 k)) (fun _ i => s.size - (RowKit.intOf i).toNat)
  case atStart => exact ⟨0, Nat.zero_le _, rfl, rfl⟩
  case round =>
    obtain ⟨k, hk, rfl, rfl⟩ := hrel
    have vb := val_bd4 s 0 k (by omega) (fun j hj => hd'.out j (by omega))
    have vb1 := vb.1
    have vb2 := vb.2
    clear vb
    by_cases hlt : k < s.size
    · have b := (dgB_iff _).1 (hd'.out k hlt)
      rw [Nat.zero_add, bz_at s k hlt] at b
      have hv : Hid (val s 0 (k + 1) = val s 0 k * 10 + ((s[k].toNat : Int) - 48)) := Lib.hid (by show val s 0 k * 10 + ((bz s (0 + k) : Int) - 48) = _; rw [Nat.zero_add, bz_at s k hlt])
      have b1 := b.1
      have b2 := b.2
      clear b
      go_wp2
      go_round
      case rel => exact ⟨k + 1, by omega, by go_num, by rw [hv.out]⟩
      case measure => simp [RowKit.intOf]; omega
    · obtain rfl : k = s.size := by omega
      go_wp2
      go_ret
      exact ⟨rfl, rfl⟩

theorem isDigit_any (c : Nat) (w : World) (hc : c ≤ 255) (b : Bool) (hb : dgB c = b) :
    Calls Tryz.prog 189 #[.int .u8 c] w fun e w' => e = .returned (.bool b) ∧ w = w' := by
  subst hb
  by_cases h1 : (48 : Int) ≤ (c : Int)
  · have t1 : decide ((48 : Int) ≤ (c : Int)) = true := decide_eq_true h1
    by_cases h2 : (c : Int) ≤ 57
    · rw [show dgB c = true by unfold dgB; simp; omega]
      have t2 : decide ((c : Int) ≤ 57) = true := decide_eq_true h2
      clear h1 h2
      go_enter Tryz.func189, Tryz.ntmps189
      go_wp2
      go_ret
      exact ⟨rfl, rfl⟩
    · rw [show dgB c = false by unfold dgB; simp; omega]
      have t2 : decide ((c : Int) ≤ 57) = false := decide_eq_false h2
      clear h1 h2
      go_enter Tryz.func189, Tryz.ntmps189
      go_wp2
      go_ret
      exact ⟨rfl, rfl⟩
  · rw [show dgB c = false by unfold dgB; simp; omega]
    have t1 : decide ((48 : Int) ≤ (c : Int)) = false := decide_eq_false h1
    clear h1
    go_enter Tryz.func189, Tryz.ntmps189
    go_wp2
    go_ret
    exact ⟨rfl, rfl⟩

/-- Does the byte at i fit the form? -/
def fitB (s f : ByteArray) (i : Nat) : Bool := if bz f i = 48 then dgB (bz s i) else decide (bz s i = bz f i)
def hasF (s f : ByteArray) : Prop := s.size = f.size ∧ ∀ i, i < s.size → fitB s f i = true
instance (s f : ByteArray) : Decidable (hasF s f) := by unfold hasF; infer_instance

theorem form_len (s f : ByteArray) (w : World) (hs : s.size ≠ f.size) (h1 : s.size ≤ 9223372036854775807) (h2 : f.size ≤ 13) :
    Calls Tryz.prog 166 #[.string s, .string f] w fun e w' => e = .returned (.bool false) ∧ w = w' := by
  have b : (((s.size : Int)) == (f.size : Int)) = false := by simp; omega
  have b2 : (((s.size : Int)) != (f.size : Int)) = true := by simp; omega
  clear hs
  go_enter Tryz.func166, Tryz.ntmps166
  go_wp2
  go_ret
  exact ⟨rfl, rfl⟩
/-- A bool; the world but for draws. -/
def BoolDr (b : Bool) (w : World) (e : Ending) (w' : World) : Prop := e = .returned (.bool b) ∧ Dr w w'
set_option maxHeartbeats 2000000 in
theorem form_eq (s f : ByteArray) (w : World) (hs : s.size = f.size) (h2 : f.size ≤ 13) (r : Bool) (hr : r = decide (∀ i, i < s.size → fitB s f i = true)) :
    Calls Tryz.prog 166 #[.string s, .string f] w (BoolDr r w) := by
  have hr' := Lib.hid hr
  have hs' := Lib.hid hs
  have c := Lib.hid (fun (n : Nat) (b : Bool) (hn : n ≤ 255) (hb : dgB n = b) w => isDigit_any n w hn b hb)
  have b1 : (((s.size : Int)) == (f.size : Int)) = true := by simp; omega
  have b2 : (((s.size : Int)) != (f.size : Int)) = false := by simp; omega
  have hle : s.size ≤ f.size := by omega
  clear hr hs
  go_enter Tryz.func166, Tryz.ntmps166
  go_wp2_with fail
  go_loopw [14] (fun i wr => ∃ k : Nat, k ≤ s.size ∧ i = .int .i64 k ∧ Hid (∀ j, j < k → fitB s f j = true) ∧ Dr w wr) (fun i _ => s.size - (RowKit.intOf i).toNat)
  case atStart => exact ⟨0, Nat.zero_le _, rfl, Lib.hid (fun j hj => by omega), Dr.refl w⟩
  case round =>
    obtain ⟨k, hk, rfl, hP, hD⟩ := hrel
    by_cases hlt : k < s.size
    · have hlt2 : k < f.size := by omega
      have hx := bz_lt s k
      have hbs := bz_at s k hlt
      have hbf := bz_at f k hlt2
      rw [hbs] at hx
      have hx' := Lib.hid hx
      by_cases h48 : f[k].toNat = 48
      · have e2 : ((f[k].toNat : Int) == 48) = true := by simp; omega
        obtain ⟨b, hb⟩ : ∃ b, dgB s[k].toNat = b := ⟨_, rfl⟩
        have hfit : Hid (fitB s f k = b) := Lib.hid (by unfold fitB; rw [hbf, if_pos h48, hbs, hb])
        have c1 := Lib.hid (c.out s[k].toNat b hx hb)
        clear hb h48 hbs hbf hx
        cases b
        · have hno : Hid (r = false) := Lib.hid (by rw [hr'.out]; exact decide_eq_false (fun h => by have := h k hlt; rw [hfit.out] at this; cases this))
          go_wp2_with fail
          go_quiet (fail)
          go_wp2_with (refine (c1.out _).mono ?_; rintro e w' ⟨rfl, rfl⟩)
          go_ret
          exact ⟨by rw [hno.out]; rfl, Dr.trans hD ⟨_, rfl⟩⟩
        · go_wp2_with fail
          go_quiet (fail)
          go_wp2_with (refine (c1.out _).mono ?_; rintro e w' ⟨rfl, rfl⟩)
          go_roundw
          case rel => exact ⟨k + 1, by omega, by go_num, Lib.hid (fun j hj => by
            by_cases e : j < k
            · exact hP.out j e
            · obtain rfl : j = k := by omega
              exact hfit.out), Dr.trans hD ⟨_, rfl⟩⟩
          case measure => simp [RowKit.intOf]; omega
      · have e2 : ((f[k].toNat : Int) == 48) = false := by simp; omega
        by_cases hxy : s[k].toNat = f[k].toNat
        · have e1 : ((s[k].toNat : Int) == (f[k].toNat : Int)) = true := by simp; omega
          have hfit : Hid (fitB s f k = true) := Lib.hid (by unfold fitB; rw [hbf, if_neg h48, hbs]; simpa using hxy)
          clear hxy h48 hbs hbf hx
          go_wp2_with fail
          go_quiet (fail)
          go_wp2_with fail
          go_roundw
          case rel => exact ⟨k + 1, by omega, by go_num, Lib.hid (fun j hj => by
            by_cases e : j < k
            · exact hP.out j e
            · obtain rfl : j = k := by omega
              exact hfit.out), Dr.trans hD ⟨_, rfl⟩⟩
          case measure => simp [RowKit.intOf]; omega
        · have e1 : ((s[k].toNat : Int) == (f[k].toNat : Int)) = false := by simp; omega
          have hfit : Hid (fitB s f k = false) := Lib.hid (by unfold fitB; rw [hbf, if_neg h48, hbs]; simpa using hxy)
          have hno : Hid (r = false) := Lib.hid (by rw [hr'.out]; exact decide_eq_false (fun h => by have := h k hlt; rw [hfit.out] at this; cases this))
          clear hxy h48 hbs hbf hx
          go_wp2_with fail
          go_quiet (fail)
          go_wp2_with fail
          go_ret
          exact ⟨by rw [hno.out]; rfl, Dr.trans hD ⟨_, rfl⟩⟩
    · obtain rfl : k = s.size := by omega
      have hyes : Hid (r = true) := Lib.hid (by rw [hr'.out]; exact decide_eq_true hP.out)
      go_wp2_with fail
      go_ret
      exact ⟨by rw [hyes.out]; rfl, hD⟩
end Go.Proofs.YtjmipikahaoblaaGreatDoor.Cal
namespace Go.Proofs.YtjmipikahaoblaaGreatDoor.Cal
open Go.RowKit Go.Lib Go.Proofs.YtjmipikahaoblaaGreatDoor.Bas
set_option linter.unusedVariables false

set_option maxHeartbeats 2000000 in
theorem rhour_n0 (y m d z h : Int) (w : World) (y1 : decide (y < 2000) = true)  :
    Calls Tryz.prog 127 #[.agg #[.int .i64 y, .int .i64 m, .int .i64 d], .int .i64 h] w (NumOut 0 1 w) := by
  go_enter Tryz.func127, Tryz.ntmps127
  go_wp2_with fail
  go_quiet (fail)
  go_wp2_with fail
  go_ret2
  exact ⟨rfl, below_drewN (alloc1 _ _) _⟩
set_option maxHeartbeats 2000000 in
theorem rhour_n1 (y m d z h : Int) (w : World) (y1 : decide (y < 2000) = false) (y2 : decide (2099 < y) = true)  :
    Calls Tryz.prog 127 #[.agg #[.int .i64 y, .int .i64 m, .int .i64 d], .int .i64 h] w (NumOut 0 1 w) := by
  go_enter Tryz.func127, Tryz.ntmps127
  go_wp2_with fail
  go_quiet (fail)
  go_wp2_with fail
  go_ret2
  exact ⟨rfl, below_drewN (alloc1 _ _) _⟩
set_option maxHeartbeats 2000000 in
theorem rhour_n2 (y m d z h : Int) (w : World) (y1 : decide (y < 2000) = false) (y2 : decide (2099 < y) = false) (m1 : decide (m < 1) = true)  :
    Calls Tryz.prog 127 #[.agg #[.int .i64 y, .int .i64 m, .int .i64 d], .int .i64 h] w (NumOut 0 1 w) := by
  go_enter Tryz.func127, Tryz.ntmps127
  go_wp2_with fail
  go_quiet (fail)
  go_wp2_with fail
  go_ret2
  exact ⟨rfl, below_drewN (alloc1 _ _) _⟩
set_option maxHeartbeats 2000000 in
theorem rhour_n3 (y m d z h : Int) (w : World) (y1 : decide (y < 2000) = false) (y2 : decide (2099 < y) = false) (m1 : decide (m < 1) = false) (m2 : decide (12 < m) = true)  :
    Calls Tryz.prog 127 #[.agg #[.int .i64 y, .int .i64 m, .int .i64 d], .int .i64 h] w (NumOut 0 1 w) := by
  go_enter Tryz.func127, Tryz.ntmps127
  go_wp2_with fail
  go_quiet (fail)
  go_wp2_with fail
  go_ret2
  exact ⟨rfl, below_drewN (alloc1 _ _) _⟩
set_option maxHeartbeats 2000000 in
theorem rhour_n4 (y m d z h : Int) (w : World) (y1 : decide (y < 2000) = false) (y2 : decide (2099 < y) = false) (m1 : decide (m < 1) = false) (m2 : decide (12 < m) = false) (d1 : decide (d < 1) = true)  :
    Calls Tryz.prog 127 #[.agg #[.int .i64 y, .int .i64 m, .int .i64 d], .int .i64 h] w (NumOut 0 1 w) := by
  go_enter Tryz.func127, Tryz.ntmps127
  go_wp2_with fail
  go_quiet (fail)
  go_wp2_with fail
  go_ret2
  exact ⟨rfl, below_drewN (alloc1 _ _) _⟩
set_option maxHeartbeats 2000000 in
theorem rhour_n5 (y m d z h : Int) (w : World) (y1 : decide (y < 2000) = false) (y2 : decide (2099 < y) = false) (m1 : decide (m < 1) = false) (m2 : decide (12 < m) = false) (d1 : decide (d < 1) = false) (d2 : decide (z < d) = true) (c : Hid (∀ n, Calls Tryz.prog 154 #[.int .i64 y, .int .i64 m] ((w.alloc (.cells #[.int .i64 y, .int .i64 m, .int .i64 d] 143)).drewN n) fun e w' => e = .returned (.int .i64 z) ∧ ((w.alloc (.cells #[.int .i64 y, .int .i64 m, .int .i64 d] 143)).drewN n) = w')) :
    Calls Tryz.prog 127 #[.agg #[.int .i64 y, .int .i64 m, .int .i64 d], .int .i64 h] w (NumOut 0 1 w) := by
  go_enter Tryz.func127, Tryz.ntmps127
  go_wp2_with fail
  go_quiet ((go_at_call 154; exact Calls.quiet_of ((c.out _).mono fun _ _ ⟨he, hw⟩ => ⟨he, 0, hw.symm⟩)))
  go_wp2_with fail
  go_ret2
  exact ⟨rfl, below_drewN (alloc1 _ _) _⟩
set_option maxHeartbeats 2000000 in
theorem rhour_n6 (y m d z h : Int) (w : World) (y1 : decide (y < 2000) = false) (y2 : decide (2099 < y) = false) (m1 : decide (m < 1) = false) (m2 : decide (12 < m) = false) (d1 : decide (d < 1) = false) (d2 : decide (z < d) = false) (h1 : decide (h < 0) = true) (c : Hid (∀ n, Calls Tryz.prog 154 #[.int .i64 y, .int .i64 m] ((w.alloc (.cells #[.int .i64 y, .int .i64 m, .int .i64 d] 143)).drewN n) fun e w' => e = .returned (.int .i64 z) ∧ ((w.alloc (.cells #[.int .i64 y, .int .i64 m, .int .i64 d] 143)).drewN n) = w')) :
    Calls Tryz.prog 127 #[.agg #[.int .i64 y, .int .i64 m, .int .i64 d], .int .i64 h] w (NumOut 0 1 w) := by
  go_enter Tryz.func127, Tryz.ntmps127
  go_wp2_with fail
  go_quiet ((go_at_call 154; exact Calls.quiet_of ((c.out _).mono fun _ _ ⟨he, hw⟩ => ⟨he, 0, hw.symm⟩)))
  go_wp2_with fail
  go_ret2
  exact ⟨rfl, below_drewN (alloc1 _ _) _⟩
set_option maxHeartbeats 2000000 in
theorem rhour_n7 (y m d z h : Int) (w : World) (y1 : decide (y < 2000) = false) (y2 : decide (2099 < y) = false) (m1 : decide (m < 1) = false) (m2 : decide (12 < m) = false) (d1 : decide (d < 1) = false) (d2 : decide (z < d) = false) (h1 : decide (h < 0) = false) (h2 : decide (23 < h) = true) (c : Hid (∀ n, Calls Tryz.prog 154 #[.int .i64 y, .int .i64 m] ((w.alloc (.cells #[.int .i64 y, .int .i64 m, .int .i64 d] 143)).drewN n) fun e w' => e = .returned (.int .i64 z) ∧ ((w.alloc (.cells #[.int .i64 y, .int .i64 m, .int .i64 d] 143)).drewN n) = w')) :
    Calls Tryz.prog 127 #[.agg #[.int .i64 y, .int .i64 m, .int .i64 d], .int .i64 h] w (NumOut 0 1 w) := by
  go_enter Tryz.func127, Tryz.ntmps127
  go_wp2_with fail
  go_quiet ((go_at_call 154; exact Calls.quiet_of ((c.out _).mono fun _ _ ⟨he, hw⟩ => ⟨he, 0, hw.symm⟩)))
  go_wp2_with fail
  go_ret2
  exact ⟨rfl, below_drewN (alloc1 _ _) _⟩
theorem rhour_no (y m d h : Int) (w : World) (hn : ¬ (okD y m d ∧ 0 ≤ h ∧ h < 24)) : Calls Tryz.prog 127 #[.agg #[.int .i64 y, .int .i64 m, .int .i64 d], .int .i64 h] w (NumOut 0 1 w) := by
  unfold okD at hn
  by_cases y1 : y < 2000
  · exact rhour_n0 y m d 0 h w (decide_eq_true y1)
  by_cases y2 : 2099 < y
  · exact rhour_n1 y m d 0 h w (decide_eq_false y1) (decide_eq_true y2)
  by_cases m1 : m < 1
  · exact rhour_n2 y m d 0 h w (decide_eq_false y1) (decide_eq_false y2) (decide_eq_true m1)
  by_cases m2 : 12 < m
  · exact rhour_n3 y m d 0 h w (decide_eq_false y1) (decide_eq_false y2) (decide_eq_false m1) (decide_eq_true m2)
  by_cases d1 : d < 1
  · exact rhour_n4 y m d 0 h w (decide_eq_false y1) (decide_eq_false y2) (decide_eq_false m1) (decide_eq_false m2) (decide_eq_true d1)
  have c := Lib.hid (fun n => days_any y m ((w.alloc (.cells #[.int .i64 y, .int .i64 m, .int .i64 d] 143)).drewN n) (by omega) (by omega))
  by_cases d2 : md y m < d
  · exact rhour_n5 y m d _ h w (decide_eq_false y1) (decide_eq_false y2) (decide_eq_false m1) (decide_eq_false m2) (decide_eq_false d1) (decide_eq_true d2) c
  by_cases h1 : h < 0
  · exact rhour_n6 y m d _ h w (decide_eq_false y1) (decide_eq_false y2) (decide_eq_false m1) (decide_eq_false m2) (decide_eq_false d1) (decide_eq_false d2) (decide_eq_true h1) c
  by_cases h2 : 23 < h
  · exact rhour_n7 y m d _ h w (decide_eq_false y1) (decide_eq_false y2) (decide_eq_false m1) (decide_eq_false m2) (decide_eq_false d1) (decide_eq_false d2) (decide_eq_false h1) (decide_eq_true h2) c
  exact absurd ⟨by omega, by omega, by omega⟩ hn

set_option maxHeartbeats 4000000 in
theorem rhour_yes (y m d h : Int) (w : World) (ho : okD y m d) (h0 : 0 ≤ h) (h1 : h < 24) : Calls Tryz.prog 127 #[.agg #[.int .i64 y, .int .i64 m, .int .i64 d], .int .i64 h] w (NumOut (24 * num y m d + h) 0 w) := by
  obtain ⟨hy1, hy2, hm1, hm2, hd1, hd2⟩ := ho
  have c := Lib.hid (fun n => days_any y m ((w.alloc (.cells #[.int .i64 y, .int .i64 m, .int .i64 d] 143)).drewN n) hy1 hy2)
  have cl := Lib.hid (fun k w => days_any y k w hy1 hy2)
  have hd3 := (md_bd y m).2
  have hd4 : d ≤ 31 := by omega
  have y1 : decide (y < 2000) = false := by simp; omega
  have y2 : decide (2099 < y) = false := by simp; omega
  have m1 : decide (m < 1) = false := by simp; omega
  have m2 : decide (12 < m) = false := by simp; omega
  have d1 : decide (d < 1) = false := by simp; omega
  have d2 : decide (md y m < d) = false := by simp; omega
  have h2 : decide (h < 0) = false := by simp; omega
  have h3 : decide (23 < h) = false := by simp; omega
  clear hd3 hd2
  go_enter Tryz.func127, Tryz.ntmps127
  go_wp2_with fail
  go_quiet ((go_at_call 154; exact Calls.quiet_of ((c.out _).mono fun _ _ ⟨he, hw⟩ => ⟨he, 0, hw.symm⟩)))
  clear y1 y2 m1 m2 d1 d2 h2 h3 c
  go_wp2_with fail
  go_loop [6, 7] (fun r k => ∃ m' : Int, 1 ≤ m' ∧ m' ≤ m ∧ k = .int .i64 m' ∧ r = .int .i64 (d - 1 + cum y m')) (fun _ k => (12 - RowKit.intOf k).toNat)
  case atStart => exact ⟨1, by omega, by omega, rfl, by rw [cum_one, Int.add_zero]⟩
  case round =>
    obtain ⟨k, hk1, hk2, rfl, rfl⟩ := hrel
    have hk3 : k ≤ 12 := by omega
    have cb2 := cum_bd y k hk1 hk3
    have cb3 := cb2.1
    have cb4 := cb2.2
    clear cb2
    by_cases hlt : k < m
    · have cs := Lib.hid (cum_succ y k hk1 hk3)
      have mb := md_bd y k
      have mb1 := mb.1
      have mb2 := mb.2
      clear mb
      have cl1 := Lib.hid (cl.out k)
      go_wp2_with (refine (cl1.out _).mono ?_; rintro e w' ⟨rfl, rfl⟩)
      go_round
      case rel => exact ⟨k + 1, by omega, by omega, rfl, by rw [cs.out]; go_num⟩
      case measure => simp [RowKit.intOf]; omega
    · obtain rfl : k = m := by omega
      clear hlt
      have cle := Lib.hid (fun y h1 h2 w => leap_any y w h1 h2)
      have d0 := dby_lo
      have d0' := Lib.hid d0
      clear d0
      go_wp2_with fail
      go_loop [6, 8] (fun r g => ∃ y' : Int, 2000 ≤ y' ∧ y' ≤ y ∧ g = .int .i64 y' ∧ r = .int .i64 (d - 1 + cum y k + dby y')) (fun _ g => (2100 - RowKit.intOf g).toNat)
      case atStart => exact ⟨2000, by omega, by omega, rfl, by rw [d0'.out, Int.add_zero]⟩
      case round =>
        obtain ⟨y', hy3, hy4, rfl, rfl⟩ := hrel
        have db := dby_bd y' (by omega) (by omega)
        have db1 := db.1
        have db2 := db.2
        clear db
        by_cases hlt : y' < y
        · have ds := Lib.hid (dby_succ y')
          have c1 := cle.out y' hy3 (by omega)
          by_cases hl : y' % 4 = 0
          · have c2 := Lib.hid c1
            rw [decide_eq_true hl] at c2
            have dl : Hid (dby (y' + 1) = dby y' + 365 + 1) := Lib.hid (by rw [ds.out]; unfold lp; rw [if_pos hl])
            clear c1 hl
            go_wp2_with (refine (c2.out _).mono ?_; rintro e w' ⟨rfl, rfl⟩)
            go_round
            case rel => exact ⟨y' + 1, by omega, by omega, rfl, by rw [dl.out]; go_num⟩
            case measure => simp [RowKit.intOf]; omega
          · have c2 := Lib.hid c1
            rw [decide_eq_false hl] at c2
            have dl : Hid (dby (y' + 1) = dby y' + 365) := Lib.hid (by rw [ds.out]; unfold lp; rw [if_neg hl, Int.add_zero])
            clear c1 hl
            go_wp2_with (refine (c2.out _).mono ?_; rintro e w' ⟨rfl, rfl⟩)
            go_round
            case rel => exact ⟨y' + 1, by omega, by omega, rfl, by rw [dl.out]; go_num⟩
            case measure => simp [RowKit.intOf]; omega
        · obtain rfl : y' = y := by omega
          clear hlt
          have hfin : 24 * (d - 1 + cum y' k + dby y') + h = 24 * num y' k d + h := by unfold num; omega
          have hfin' := Lib.hid hfin
          clear hfin
          go_wp2_with fail
          go_ret2
          refine ⟨?_, below_drewN (alloc1 _ _) _⟩
          rw [← hfin'.out]
          rfl
end Go.Proofs.YtjmipikahaoblaaGreatDoor.Cal
namespace Go.Proofs.YtjmipikahaoblaaGreatDoor.Cal
open Go.RowKit Go.Lib Go.Proofs.YtjmipikahaoblaaGreatDoor.Bas
set_option linter.unusedVariables false

theorem digs_four (s : ByteArray) (i : Nat) : digs s i 4 ↔ dgB (bz s i) = true ∧ dgB (bz s (i + 1)) = true ∧ dgB (bz s (i + 2)) = true ∧ dgB (bz s (i + 3)) = true := by
  constructor
  · intro h; exact ⟨h 0 (by omega), h 1 (by omega), h 2 (by omega), h 3 (by omega)⟩
  · rintro ⟨a, b, c, d⟩ j hj
    rcases (show j = 0 ∨ j = 1 ∨ j = 2 ∨ j = 3 by omega) with e | e | e | e <;> subst e <;> assumption
theorem digs_two (s : ByteArray) (i : Nat) : digs s i 2 ↔ dgB (bz s i) = true ∧ dgB (bz s (i + 1)) = true := by
  constructor
  · intro h; exact ⟨h 0 (by omega), h 1 (by omega)⟩
  · rintro ⟨a, b⟩ j hj
    rcases (show j = 0 ∨ j = 1 by omega) with e | e <;> subst e <;> assumption

def dayF : ByteArray := { data := #[48, 48, 48, 48, 45, 48, 48, 45, 48, 48] }
def hourF : ByteArray := { data := #[48, 48, 48, 48, 45, 48, 48, 45, 48, 48, 84, 48, 48] }
theorem fit_dg (s f : ByteArray) (i : Nat) (h : bz f i = 48) : fitB s f i = dgB (bz s i) := by unfold fitB; rw [if_pos h]
theorem fit_eq (s f : ByteArray) (i c : Nat) (h : bz f i = c) (hc : c ≠ 48) : fitB s f i = true ↔ bz s i = c := by unfold fitB; rw [h, if_neg hc]; simp
/-- The date's part of a form. -/
def part (s : ByteArray) : Prop := digs s 0 4 ∧ bz s 4 = 45 ∧ digs s 5 2 ∧ bz s 7 = 45 ∧ digs s 8 2
theorem part_of (s f : ByteArray) (h0 : ∀ i, i < 10 → bz f i = bz dayF i) : part s ↔ ∀ i, i < 10 → fitB s f i = true := by
  have f0 := fit_dg s f 0 (h0 0 (by omega))
  have f1 := fit_dg s f 1 (h0 1 (by omega))
  have f2 := fit_dg s f 2 (h0 2 (by omega))
  have f3 := fit_dg s f 3 (h0 3 (by omega))
  have f4 := fit_eq s f 4 45 (h0 4 (by omega)) (by omega)
  have f5 := fit_dg s f 5 (h0 5 (by omega))
  have f6 := fit_dg s f 6 (h0 6 (by omega))
  have f7 := fit_eq s f 7 45 (h0 7 (by omega)) (by omega)
  have f8 := fit_dg s f 8 (h0 8 (by omega))
  have f9 := fit_dg s f 9 (h0 9 (by omega))
  unfold part
  rw [digs_four, digs_two, digs_two]
  constructor
  · rintro ⟨⟨a0, a1, a2, a3⟩, a4, ⟨a5, a6⟩, a7, a8, a9⟩ j hj
    rcases (show j = 0 ∨ j = 1 ∨ j = 2 ∨ j = 3 ∨ j = 4 ∨ j = 5 ∨ j = 6 ∨ j = 7 ∨ j = 8 ∨ j = 9 by omega) with e | e | e | e | e | e | e | e | e | e <;> subst e
    · rw [f0]; exact a0
    · rw [f1]; exact a1
    · rw [f2]; exact a2
    · rw [f3]; exact a3
    · exact f4.2 a4
    · rw [f5]; exact a5
    · rw [f6]; exact a6
    · exact f7.2 a7
    · rw [f8]; exact a8
    · rw [f9]; exact a9
  · intro h
    exact ⟨⟨by rw [← f0]; exact h 0 (by omega), by rw [← f1]; exact h 1 (by omega), by rw [← f2]; exact h 2 (by omega), by rw [← f3]; exact h 3 (by omega)⟩, f4.1 (h 4 (by omega)), ⟨by rw [← f5]; exact h 5 (by omega), by rw [← f6]; exact h 6 (by omega)⟩, f7.1 (h 7 (by omega)), by rw [← f8]; exact h 8 (by omega), by rw [← f9]; exact h 9 (by omega)⟩
theorem day_iff (s : ByteArray) : hasF s dayF ↔ s.size = 10 ∧ part s := by
  unfold hasF
  rw [show dayF.size = 10 from rfl]
  constructor
  · rintro ⟨a, b⟩; exact ⟨a, (part_of s dayF (fun _ _ => rfl)).2 (fun i hi => b i (by omega))⟩
  · rintro ⟨a, b⟩; exact ⟨a, fun i hi => (part_of s dayF (fun _ _ => rfl)).1 b i (by omega)⟩
theorem hour_iff (s : ByteArray) : hasF s hourF ↔ s.size = 13 ∧ part s ∧ bz s 10 = 84 ∧ digs s 11 2 := by
  have hp := part_of s hourF (fun i hi => by
    rcases (show i = 0 ∨ i = 1 ∨ i = 2 ∨ i = 3 ∨ i = 4 ∨ i = 5 ∨ i = 6 ∨ i = 7 ∨ i = 8 ∨ i = 9 by omega) with e | e | e | e | e | e | e | e | e | e <;> subst e <;> rfl)
  have f10 := fit_eq s hourF 10 84 rfl (by omega)
  have f11 := fit_dg s hourF 11 rfl
  have f12 := fit_dg s hourF 12 rfl
  unfold hasF
  rw [show hourF.size = 13 from rfl, digs_two, hp]
  constructor
  · rintro ⟨a, b⟩; exact ⟨a, fun i hi => b i (by omega), f10.1 (b 10 (by omega)), by rw [← f11]; exact b 11 (by omega), by rw [← f12]; exact b 12 (by omega)⟩
  · rintro ⟨a, b, c, d, e⟩
    refine ⟨a, fun i hi => ?_⟩
    by_cases hi2 : i < 10
    · exact b i hi2
    · rcases (show i = 10 ∨ i = 11 ∨ i = 12 by omega) with h | h | h <;> subst h
      · exact f10.2 c
      · rw [f11]; exact d
      · rw [f12]; exact e

theorem form_any (s f : ByteArray) (w : World) (h1 : s.size ≤ 9223372036854775807) (h2 : f.size ≤ 13) (r : Bool) (hr : r = decide (hasF s f)) :
    Calls Tryz.prog 166 #[.string s, .string f] w (BoolDr r w) := by
  by_cases hs : s.size = f.size
  · exact form_eq s f w hs h2 r (by rw [hr]; unfold hasF; congr 1; simp [hs])
  · rw [hr, show decide (hasF s f) = false from decide_eq_false (fun h => hs h.1)]
    exact (form_len s f w hs h1 h2).mono fun _ _ ⟨he, hw⟩ => ⟨he, by rw [← hw]; exact Dr.refl _⟩

/-- What Hour returns. -/
def hourV (y m d h : Int) : Int × Int := if okD y m d ∧ 0 ≤ h ∧ h < 24 then (24 * num y m d + h, 0) else (0, 1)
theorem hour_any (y m d h : Int) (w : World) (hT : Tab w) : Calls Tryz.prog 168 #[.agg #[.int .i64 y, .int .i64 m, .int .i64 d], .int .i64 h] w (NumOut (hourV y m d h).1 (hourV y m d h).2 w) := by
  unfold hourV
  by_cases hh : okD y m d ∧ 0 ≤ h ∧ h < 24
  · rw [if_pos hh]; exact hour_yes y m d h w hT hh.1 hh.2.1 hh.2.2
  · rw [if_neg hh]; exact hour_no y m d h w hT hh
theorem rhour_any (y m d h : Int) (w : World) : Calls Tryz.prog 127 #[.agg #[.int .i64 y, .int .i64 m, .int .i64 d], .int .i64 h] w (NumOut (hourV y m d h).1 (hourV y m d h).2 w) := by
  unfold hourV
  by_cases hh : okD y m d ∧ 0 ≤ h ∧ h < 24
  · rw [if_pos hh]; exact rhour_yes y m d h w hh.1 hh.2.1 hh.2.2
  · rw [if_neg hh]; exact rhour_no y m d h w hh
/-- What Parse returns. -/
def parseV (s : ByteArray) : Int × Int :=
  if hasF s dayF then hourV (val s 0 4) (val s 5 2) (val s 8 2) 0 else if hasF s hourF then hourV (val s 0 4) (val s 5 2) (val s 8 2) (val s 11 2) else (0, 5)

theorem sub_any (s : ByteArray) (a b n : Nat) (hb : b ≤ s.size) (hn : b = a + n) (hn4 : n ≤ 4) (hd : digs s a n) (v : Int) (hv : val s a n = v) (w : World) :
    Calls Tryz.prog 167 #[.string (s.extract a b)] w fun e w' => e = .returned (.int .i64 v) ∧ w = w' := by
  have hz : (s.extract a b).size = n := by rw [ByteArray.size_extract]; omega
  have := number_any (s.extract a b) w (by omega) (by rw [hz]; exact digs_extract s a b n hb (by omega) hd)
  rw [hz, val_extract s a b n hb (by omega), hv] at this
  exact this

theorem below_of_drewN {w w' : World} {n : Nat} (h : Below (w.drewN n).heap.size (w.drewN n) w') : Below w.heap.size w w' := ⟨h.os, h.tape, h.output, h.size, h.block⟩
set_option maxHeartbeats 2000000 in
theorem parse_day (s : ByteArray) (w : World) (hT : Tab w) (h : hasF s dayF) : Calls Tryz.prog 148 #[.string s] w (NumOut (parseV s).1 (parseV s).2 w) := by
  rw [show parseV s = hourV (val s 0 4) (val s 5 2) (val s 8 2) 0 by unfold parseV; rw [if_pos h]]
  obtain ⟨h10, p1, p2, p3, p4, p5⟩ := (day_iff s).1 h
  obtain ⟨y, hy⟩ : ∃ y, val s 0 4 = y := ⟨_, rfl⟩
  obtain ⟨m, hm⟩ : ∃ m, val s 5 2 = m := ⟨_, rfl⟩
  obtain ⟨d, hd⟩ : ∃ d, val s 8 2 = d := ⟨_, rfl⟩
  have c0 := Lib.hid (sub_any s 0 4 4 (by omega) rfl (by omega) p1 y hy)
  have c1 := Lib.hid (sub_any s 5 7 2 (by omega) rfl (by omega) p3 m hm)
  have c2 := Lib.hid (sub_any s 8 10 2 (by omega) rfl (by omega) p5 d hd)
  have cf := Lib.hid (form_any s dayF w (by omega) (by decide) true (by simp [h]))
  have ch := Lib.hid (fun w hT => hour_any y m d 0 w hT)
  have hT' := Lib.hid hT
  rw [hy, hm, hd]
  have hfin : ∃ r1 r2, hourV y m d 0 = (r1, r2) := ⟨_, _, rfl⟩
  obtain ⟨r1, r2, hr⟩ := hfin
  rw [hr] at ch ⊢
  have s10 : s.size ≤ 10 := by omega
  have b4 : (4 : Int) ≤ (s.size : Int) := by omega
  have b7 : (7 : Int) ≤ (s.size : Int) := by omega
  have b10 : (10 : Int) ≤ (s.size : Int) := by omega
  clear h hy hm hd p1 p2 p3 p4 p5 hT hr h10
  unfold dayF at cf
  go_enter Tryz.func148, Tryz.ntmps148
  go_wp2_with fail
  refine cf.out.mono ?_; rintro e w1 ⟨rfl, ⟨n1, rfl⟩⟩
  go_wp2_with fail
  have hT2 := Lib.hid (hT'.out.drewN n1)
  have e4 : ∀ w, (Instr.slice 9 (.string s) none (some (.int .i64 4)) none).run Tryz.prog w = .ok (.string (s.extract 0 4)) w := fun w => run_slice_string_h w _ s Tryz.underlying9 .i64 4 (by omega) b4
  have e7 : ∀ w, (Instr.slice 9 (.string s) (some (.int .i64 5)) (some (.int .i64 7)) none).run Tryz.prog w = .ok (.string (s.extract 5 7)) w := fun w => run_slice_string w _ s .i64 .i64 5 7 Tryz.underlying9 (by omega) (by omega) b7
  have e10 : ∀ w, (Instr.slice 9 (.string s) (some (.int .i64 8)) (some (.int .i64 10)) none).run Tryz.prog w = .ok (.string (s.extract 8 10)) w := fun w => run_slice_string w _ s .i64 .i64 8 10 Tryz.underlying9 (by omega) (by omega) b10
  go_region_held3 (fun w' => Tab w') (first | exact hT2.out | exact Tab.keep (hT'.out.drewN _) hB)
    (first
      | (go_at_call 167; (first | (with_reducible refine (c0.out _).mono ?_) | (with_reducible refine (c1.out _).mono ?_) | (with_reducible refine (c2.out _).mono ?_)); rintro e w' ⟨rfl, rfl⟩)
      | (go_at_call 168; refine (ch.out _ (by assumption)).mono ?_; rintro e w' ⟨rfl, hB⟩))
  go_wp2_with fail
  go_ret2
  exact ⟨rfl, below_of_drewN hB⟩

set_option maxHeartbeats 2000000 in
theorem parse_hour (s : ByteArray) (w : World) (hT : Tab w) (h : hasF s hourF) : Calls Tryz.prog 148 #[.string s] w (NumOut (parseV s).1 (parseV s).2 w) := by
  obtain ⟨h13, ⟨p1, p2, p3, p4, p5⟩, p6, p7⟩ := (hour_iff s).1 h
  have hnd : ¬ hasF s dayF := fun e => by have := ((day_iff s).1 e).1; omega
  rw [show parseV s = hourV (val s 0 4) (val s 5 2) (val s 8 2) (val s 11 2) by unfold parseV; rw [if_neg hnd, if_pos h]]
  obtain ⟨y, hy⟩ : ∃ y, val s 0 4 = y := ⟨_, rfl⟩
  obtain ⟨m, hm⟩ : ∃ m, val s 5 2 = m := ⟨_, rfl⟩
  obtain ⟨d, hd⟩ : ∃ d, val s 8 2 = d := ⟨_, rfl⟩
  obtain ⟨k, hk⟩ : ∃ k, val s 11 2 = k := ⟨_, rfl⟩
  have c0 := Lib.hid (sub_any s 0 4 4 (by omega) rfl (by omega) p1 y hy)
  have c1 := Lib.hid (sub_any s 5 7 2 (by omega) rfl (by omega) p3 m hm)
  have c2 := Lib.hid (sub_any s 8 10 2 (by omega) rfl (by omega) p5 d hd)
  have c3 := Lib.hid (sub_any s 11 s.size 2 (by omega) (by omega) (by omega) p7 k hk)
  have cn := Lib.hid (form_any s dayF w (by omega) (by decide) false (by simp [hnd]))
  have cf := Lib.hid (fun n => form_any s hourF (w.drewN n) (by omega) (by decide) true (by simp [h]))
  have ch := Lib.hid (fun w hT => hour_any y m d k w hT)
  have hT' := Lib.hid hT
  rw [hy, hm, hd, hk]
  have hfin : ∃ r1 r2, hourV y m d k = (r1, r2) := ⟨_, _, rfl⟩
  obtain ⟨r1, r2, hr⟩ := hfin
  rw [hr] at ch ⊢
  have s13 : s.size ≤ 13 := by omega
  have b4 : (4 : Int) ≤ (s.size : Int) := by omega
  have b7 : (7 : Int) ≤ (s.size : Int) := by omega
  have b10 : (10 : Int) ≤ (s.size : Int) := by omega
  have b11 : (11 : Int) ≤ (s.size : Int) := by omega
  have b13 : ((s.size : Int) == 13) = true := by simp; omega
  have e4 : ∀ w, (Instr.slice 9 (.string s) none (some (.int .i64 4)) none).run Tryz.prog w = .ok (.string (s.extract 0 4)) w := fun w => run_slice_string_h w _ s Tryz.underlying9 .i64 4 (by omega) b4
  have e7 : ∀ w, (Instr.slice 9 (.string s) (some (.int .i64 5)) (some (.int .i64 7)) none).run Tryz.prog w = .ok (.string (s.extract 5 7)) w := fun w => run_slice_string w _ s .i64 .i64 5 7 Tryz.underlying9 (by omega) (by omega) b7
  have e10 : ∀ w, (Instr.slice 9 (.string s) (some (.int .i64 8)) (some (.int .i64 10)) none).run Tryz.prog w = .ok (.string (s.extract 8 10)) w := fun w => run_slice_string w _ s .i64 .i64 8 10 Tryz.underlying9 (by omega) (by omega) b10
  clear h hy hm hd hk p1 p2 p3 p4 p5 p6 p7 hT hr h13 hnd
  unfold dayF at cn
  unfold hourF at cf
  go_enter Tryz.func148, Tryz.ntmps148
  go_wp2_with fail
  refine cn.out.mono ?_; rintro e w1 ⟨rfl, ⟨n1, rfl⟩⟩
  go_wp2_with fail
  refine (cf.out _).mono ?_; rintro e w1 ⟨rfl, ⟨n2, rfl⟩⟩
  go_wp2_with fail
  refine (c3.out _).mono ?_; rintro e w1 ⟨rfl, rfl⟩
  go_wp2_with fail
  have hT2 := Lib.hid ((hT'.out.drewN n1).drewN n2)
  go_region_held3 (fun w' => Tab w') (first | exact hT2.out | exact Tab.keep (hT'.out.drewN _) hB)
    (first
      | (go_at_call 167; (first | (with_reducible refine (c0.out _).mono ?_) | (with_reducible refine (c1.out _).mono ?_) | (with_reducible refine (c2.out _).mono ?_)); rintro e w' ⟨rfl, rfl⟩)
      | (go_at_call 168; refine (ch.out _ (by assumption)).mono ?_; rintro e w' ⟨rfl, hB⟩))
  go_wp2_with fail
  go_ret2
  exact ⟨rfl, below_of_drewN hB⟩

set_option maxHeartbeats 1000000 in
theorem parse_no (s : ByteArray) (w : World) (hs : s.size ≤ 9223372036854775807) (h1 : ¬ hasF s dayF) (h2 : ¬ hasF s hourF) : Calls Tryz.prog 148 #[.string s] w (NumOut (parseV s).1 (parseV s).2 w) := by
  rw [show parseV s = (0, 5) by unfold parseV; rw [if_neg h1, if_neg h2]]
  have cn := Lib.hid (form_any s dayF w hs (by decide) false (by simp [h1]))
  have cf := Lib.hid (fun n => form_any s hourF (w.drewN n) hs (by decide) false (by simp [h2]))
  clear h1 h2 hs
  unfold dayF at cn
  unfold hourF at cf
  go_enter Tryz.func148, Tryz.ntmps148
  go_wp2_with fail
  refine cn.out.mono ?_; rintro e w1 ⟨rfl, ⟨n1, rfl⟩⟩
  go_wp2_with fail
  refine (cf.out _).mono ?_; rintro e w1 ⟨rfl, ⟨n2, rfl⟩⟩
  go_wp2_with fail
  go_ret2
  exact ⟨rfl, below_drewN (Below.refl _ _) _⟩
theorem parse_any (s : ByteArray) (w : World) (hT : Tab w) (hs : s.size ≤ 9223372036854775807) : Calls Tryz.prog 148 #[.string s] w (NumOut (parseV s).1 (parseV s).2 w) := by
  by_cases h1 : hasF s dayF
  · exact parse_day s w hT h1
  · by_cases h2 : hasF s hourF
    · exact parse_hour s w hT h2
    · exact parse_no s w hs h1 h2

end Go.Proofs.YtjmipikahaoblaaGreatDoor.Cal
namespace Go.Proofs.YtjmipikahaoblaaGreatDoor.Cal
open Go.RowKit Go.Lib Go.Proofs.YtjmipikahaoblaaGreatDoor.Bas
set_option linter.unusedVariables false

/-- A digit's byte. -/
def dgc (k : Int) : UInt8 := UInt8.ofNat (48 + k.toNat)
theorem dgc_nat (k : Int) (h0 : 0 ≤ k) (h1 : k ≤ 9) : ((dgc k).toNat : Int) = 48 + k := by
  unfold dgc
  have : (UInt8.ofNat (48 + k.toNat)).toNat = (48 + k.toNat) % 256 := by simp
  omega
def StrBe (s : ByteArray) (w : World) (e : Ending) (w' : World) : Prop := e = .returned (.string s) ∧ Below w.heap.size w w'
def strSz (v : Value) : Nat := match v with | .string b => b.size | _ => 0
/-- The last k digits. -/
def dgs (n : Nat) : Nat → List UInt8
  | 0 => []
  | k + 1 => dgc (((n / 10 ^ k : Nat) : Int) % 10) :: dgs n k
theorem dgs_length (n k : Nat) : (dgs n k).length = k := by induction k with | zero => rfl | succ k ih => simp [dgs, ih]
/-- How many digits are written. -/
def Lst (n L k : Nat) : Prop := L ≤ k ∧ n < 10 ^ k ∧ ∀ j, L ≤ j → j < k → 10 ^ j ≤ n
theorem div_pos_iff (n j : Nat) : 0 < n / 10 ^ j ↔ 10 ^ j ≤ n := by
  have h : 0 < 10 ^ j := Nat.pow_pos (by omega)
  rw [Nat.div_pos_iff]
  exact ⟨fun h => h.2, fun g => ⟨h, g⟩⟩
set_option maxHeartbeats 2000000 in
set_option maxRecDepth 4000 in
theorem digits_gen (n L : Nat) (w : World) (hL : L ≤ 4) (hn : n ≤ 17592186044416) : Calls Tryz.prog 143 #[.int .i64 n, .int .i64 L] w fun e w' => ∃ k, Lst n L k ∧ e = .returned (.string (tx (dgs n k))) ∧ Below w.heap.size w w' := by
  have h14 : n < 10 ^ 14 := by
    have e : (10 : Nat) ^ 14 = 100000000000000 := rfl
    omega
  have hn' := Lib.hid h14
  have hdp := Lib.hid (div_pos_iff n)
  clear h14
  go_enter Tryz.func143, Tryz.ntmps143
  go_wp2_with fail
  go_loopw [0, 5] (fun t s wr => ∃ k : Nat, k ≤ 14 ∧ t = .int .i64 ((n / 10 ^ k : Nat) : Int) ∧ s = .string (tx (dgs n k)) ∧ Hid (∀ j, L ≤ j → j < k → 10 ^ j ≤ n) ∧ Hid (Below w.heap.size w wr)) (fun _ s _ => 15 - strSz s)
  case atStart => exact ⟨0, Nat.zero_le _, by simp, rfl, Lib.hid (fun j _ h => by omega), Lib.hid (Below.refl _ _)⟩
  case round =>
    obtain ⟨k, hk, rfl, rfl, hJ, hB⟩ := hrel
    have hsz := tx_size (dgs n k)
    rw [dgs_length] at hsz
    have hq9 : n / 10 ^ k ≤ 17592186044416 := Nat.le_trans (Nat.div_le_self _ _) hn
    have h14 : ¬ (0 < n / 10 ^ 14) := by rw [hdp.out 14]; have := hn'.out; omega
    by_cases hlt : 0 < n / 10 ^ k ∨ k < L
    · have hk13 : k ≤ 13 := by
        by_cases e : k = 14
        · subst e; omega
        · omega
      have hJ2 := Lib.hid (show ∀ j, L ≤ j → j < k + 1 → 10 ^ j ≤ n by
        intro j a b
        by_cases e : j = k
        · subst e; exact (hdp.out j).1 (by omega)
        · exact hJ.out j a (by omega))
      have hq : (n / 10 ^ k : Nat) / 10 = n / 10 ^ (k + 1) := by rw [Nat.div_div_eq_div_mul, Nat.pow_succ]
      have hq' := Lib.hid hq
      have hd : dgs n (k + 1) = dgc (((n / 10 ^ k : Nat) : Int) % 10) :: dgs n k := rfl
      have hd' := Lib.hid hd
      have hsz1 := tx_size (dgs n (k + 1))
      rw [dgs_length] at hsz1
      have hsz1' := Lib.hid hsz1
      clear hq hd hsz1 h14
      generalize n / 10 ^ k = q at *
      have hz1 : (tx [dgc ((q : Int) % 10)]).size = 1 := tx_size _
      have hrun : (convert 91 9 (.slice (some ⟨wr.heap.size, 0, none⟩) 1 1)).run Tryz.prog (wr.alloc (.cells #[.int .u8 (48 + (q : Int) % 10)] 5)) = .ok (.string (tx [dgc ((q : Int) % 10)])) (wr.alloc (.cells #[.int .u8 (48 + (q : Int) % 10)] 5)) :=
        run_convert_bytes_back (wr.alloc (.cells #[.int .u8 (48 + (q : Int) % 10)] 5)) 91 9 5 ⟨wr.heap.size, 0, none⟩ 1 [dgc ((q : Int) % 10)] Tryz.underlying91 Tryz.underlying5 Tryz.underlying9 (fun j hj => by
          have hj2 : j < 1 := hj
          obtain rfl : j = 0 := by omega
          show _ = some (Value.int .u8 ((dgc ((q : Int) % 10)).toNat : Int))
          rw [dgc_nat _ (by omega) (by omega)]; simp [Addr.add])
      have hfin' := Lib.hid (show Below w.heap.size w (wr.alloc (.cells #[.int .u8 (48 + (q : Int) % 10)] 5)) from hB.out.alloc (hB.out.size) _)
      by_cases h0 : 0 < q
      · have g1 : decide (0 < q) = true := by simp; omega
        have g2 : decide ((0 : Int) < (q : Int)) = true := by simp; omega
        clear hlt
        go_wp2
        all_goals
          go_roundw
          case rel => exact ⟨k + 1, by omega, by rw [← hq'.out]; simp, by rw [hd'.out, tx_append]; rfl, hJ2, Lib.hid hfin'.out⟩
          case measure => rw [tx_append]; simp only [strSz, tx_size, List.length_append, dgs_length]; simp; omega
      · obtain rfl : q = 0 := by omega
        have hrun0 : (convert 91 9 (.slice (some ⟨wr.heap.size, 0, none⟩) 1 1)).run Tryz.prog (wr.alloc (.cells #[.int .u8 48] 5)) = .ok (.string (tx [dgc 0])) (wr.alloc (.cells #[.int .u8 48] 5)) := hrun
        have hz0 : (tx [dgc 0]).size = 1 := tx_size _
        have hlt1 : decide ((k : Int) < (L : Int)) = true := by simp; omega
        have hlt2 : decide (k < L) = true := by simp; omega
        clear hlt hrun h0 hz1
        go_wp2
        try any_goals (exfalso; omega; done)
        all_goals
          go_roundw
          case rel => exact ⟨k + 1, by omega, by rw [← hq'.out]; rfl, by rw [hd'.out, tx_append]; rfl, hJ2, Lib.hid hfin'.out⟩
          case measure => rw [tx_append]; simp only [strSz, tx_size, List.length_append, dgs_length]; simp; omega
    · have hq : n / 10 ^ k = 0 := Nat.le_zero.1 (Nat.not_lt.1 fun h => hlt (.inl h))
      have hfin := Lib.hid (show Lst n L k from ⟨Nat.not_lt.1 fun h => hlt (.inr h), by
        by_cases e : 10 ^ k ≤ n
        · have := (hdp.out k).2 e; omega
        · omega, hJ.out⟩)
      rw [hq]
      have hlt1 : decide ((k : Int) < (L : Int)) = false := by simp; omega
      have hlt2 : decide (k < L) = false := by simp; omega
      clear hq hlt h14 hq9 hJ
      go_wp2
      go_ret
      exact ⟨k, hfin.out, rfl, hB.out⟩
end Go.Proofs.YtjmipikahaoblaaGreatDoor.Cal
namespace Go.Proofs.YtjmipikahaoblaaGreatDoor.Cal
open Go.RowKit Go.Lib Go.Proofs.YtjmipikahaoblaaGreatDoor.Bas
set_option linter.unusedVariables false

def two (n : Int) : List UInt8 := [dgc (n / 10), dgc (n % 10)]
set_option maxHeartbeats 1000000 in
theorem two_any (n : Int) (w : World) (h0 : 0 ≤ n) (h1 : n ≤ 99) : Calls Tryz.prog 160 #[.int .i64 n] w (StrBe (tx (two n)) w) := by
  have hrun : (convert 91 9 (.slice (some ⟨w.heap.size, 0, none⟩) 2 2)).run Tryz.prog (w.alloc (.cells #[.int .u8 (48 + n / 10), .int .u8 (48 + n % 10)] 5)) = .ok (.string (tx (two n))) (w.alloc (.cells #[.int .u8 (48 + n / 10), .int .u8 (48 + n % 10)] 5)) :=
    run_convert_bytes_back (w.alloc (.cells #[.int .u8 (48 + n / 10), .int .u8 (48 + n % 10)] 5)) 91 9 5 ⟨w.heap.size, 0, none⟩ 2 (two n) Tryz.underlying91 Tryz.underlying5 Tryz.underlying9 (fun j hj => by
      have hj2 : j < 2 := hj
      rcases (show j = 0 ∨ j = 1 by omega) with e | e <;> subst e
      · show _ = some (Value.int .u8 ((dgc (n / 10)).toNat : Int))
        rw [dgc_nat _ (by omega) (by omega)]; simp [Addr.add]
      · show _ = some (Value.int .u8 ((dgc (n % 10)).toNat : Int))
        rw [dgc_nat _ (by omega) (by omega)]; simp [Addr.add])
  go_enter Tryz.func160, Tryz.ntmps160
  go_wp2
  go_ret
  exact ⟨rfl, alloc1 _ _⟩

theorem digits_any (n L : Nat) (w : World) (hL : L ≤ 4) (hn : n < 10 ^ L) : Calls Tryz.prog 143 #[.int .i64 n, .int .i64 L] w (StrBe (tx (dgs n L)) w) := by
  have hn9 : n ≤ 9999 := by
    have : (10 : Nat) ^ L ≤ 10 ^ 4 := Nat.pow_le_pow_right (by omega) hL
    have e : (10 : Nat) ^ 4 = 10000 := rfl
    omega
  refine (digits_gen n L w hL (by omega)).mono ?_
  rintro e w' ⟨k, ⟨h1, h2, h3⟩, rfl, hB⟩
  have hk : k = L := by
    by_cases e : L < k
    · have := h3 L (Nat.le_refl _) e; omega
    · omega
  subst hk
  exact ⟨rfl, hB⟩
end Go.Proofs.YtjmipikahaoblaaGreatDoor.Cal
namespace Go.Proofs.YtjmipikahaoblaaGreatDoor.Cal
open Go.RowKit Go.Lib Go.Proofs.YtjmipikahaoblaaGreatDoor.Bas
set_option linter.unusedVariables false

def wi (x n : Int) : Int := (x.tmod n + n) % n
theorem wi_bd (x n : Int) (h : 0 < n) : 0 ≤ wi x n ∧ wi x n < n := ⟨Int.emod_nonneg _ (by omega), Int.emod_lt_of_pos _ h⟩
theorem within_any (x n : Int) (w : World) (x1 : -9223372036854775808 ≤ x) (x2 : x ≤ 9223372036854775807) (hn : 0 < n) (hn2 : n ≤ 17592186044416) :
    Calls Tryz.prog 33 #[.int .i64 x, .int .i64 n] w fun e w' => e = .returned (.int .i64 (wi x n)) ∧ w = w' := by
  have t3 : (n == 0) = false := by simp; omega
  have hb1 := Int.lt_tmod_of_pos x hn
  have hb2 := Int.tmod_lt_of_pos x hn
  go_enter Tryz.func33, Tryz.ntmps33
  go_wp2
  go_ret
  exact ⟨rfl, rfl⟩
/-- The hour that is made of a number. -/
def hw (x : Int) : Int := wi x 876600
theorem hw_bd (x : Int) : 0 ≤ hw x ∧ hw x ≤ 876599 := by have := wi_bd x 876600 (by omega); unfold hw; omega
/-- Three cells at the beginning of block b. -/
def TriAt (W : World) (b : Nat) (y m d : Int) : Prop := b < W.heap.size ∧ W.cell? ⟨b, 0, none⟩ = some (.int .i64 y) ∧ W.cell? ⟨b, 1, none⟩ = some (.int .i64 m) ∧ W.cell? ⟨b, 2, none⟩ = some (.int .i64 d) ∧
  W.frozen? ⟨b, 0, none⟩ = false ∧ W.frozen? ⟨b, 1, none⟩ = false ∧ W.frozen? ⟨b, 2, none⟩ = false
theorem TriAt.new (w : World) (y m d : Int) : TriAt (w.alloc (.cells #[.int .i64 y, .int .i64 m, .int .i64 d] 143)) w.heap.size y m d := by
  refine ⟨by simp, by simp, by simp, by simp, by simp, by simp, by simp⟩
theorem TriAt.keep {w w' : World} {b : Nat} {y m d : Int} (h : TriAt w b y m d) (hb : Below w.heap.size w w') : TriAt w' b y m d := by
  obtain ⟨h0, h1, h2, h3, h4, h5, h6⟩ := h
  refine ⟨Nat.lt_of_lt_of_le h0 hb.size, ?_, ?_, ?_, ?_, ?_, ?_⟩
  · rw [hb.cell (p := ⟨b, 0, none⟩) h0]; exact h1
  · rw [hb.cell (p := ⟨b, 1, none⟩) h0]; exact h2
  · rw [hb.cell (p := ⟨b, 2, none⟩) h0]; exact h3
  · rw [hb.frozen (p := ⟨b, 0, none⟩) h0]; exact h4
  · rw [hb.frozen (p := ⟨b, 1, none⟩) h0]; exact h5
  · rw [hb.frozen (p := ⟨b, 2, none⟩) h0]; exact h6
/-- The world with three cells of block b set. -/
theorem TriAt.set {w : World} {b : Nat} {y m d : Int} (h : TriAt w b y m d) (y' m' d' : Int) : TriAt (((w.setCell ⟨b, 0, none⟩ (.int .i64 y')).setCell ⟨b, 1, none⟩ (.int .i64 m')).setCell ⟨b, 2, none⟩ (.int .i64 d')) b y' m' d' := by
  obtain ⟨h0, h1, h2, h3, h4, h5, h6⟩ := h
  refine ⟨by simpa using h0, ?_, ?_, ?_, ?_, ?_, ?_⟩
  · rw [World.cell?_setCell_other _ _ _ _ (by simp), World.cell?_setCell_other _ _ _ _ (by simp)]; exact World.cell?_setCell_same _ _ _ h1
  · rw [World.cell?_setCell_other _ _ _ _ (by simp)]; exact World.cell?_setCell_same _ _ _ (by rw [World.cell?_setCell_other _ _ _ _ (by simp)]; exact h2)
  · exact World.cell?_setCell_same _ _ _ (by rw [World.cell?_setCell_other _ _ _ _ (by simp), World.cell?_setCell_other _ _ _ _ (by simp)]; exact h3)
  · rw [World.frozen?_setCell, World.frozen?_setCell, World.frozen?_setCell]; exact h4
  · rw [World.frozen?_setCell, World.frozen?_setCell, World.frozen?_setCell]; exact h5
  · rw [World.frozen?_setCell, World.frozen?_setCell, World.frozen?_setCell]; exact h6
theorem below_set3 {B : Nat} {a w : World} (h : Below B a w) {b : Nat} (hb : B ≤ b) (y m d : Int) : Below B a (((w.setCell ⟨b, 0, none⟩ (.int .i64 y)).setCell ⟨b, 1, none⟩ (.int .i64 m)).setCell ⟨b, 2, none⟩ (.int .i64 d)) := ((h.setCell hb _).setCell hb _).setCell hb _
end Go.Proofs.YtjmipikahaoblaaGreatDoor.Cal
namespace Go.Proofs.YtjmipikahaoblaaGreatDoor.Cal
open Go.RowKit Go.Lib Go.Proofs.YtjmipikahaoblaaGreatDoor.Bas
set_option linter.unusedVariables false

/-- The text of a day, and of an hour. -/
def dayL (y m d : Int) : List UInt8 := two (y / 100) ++ two (y % 100) ++ [45] ++ two m ++ [45] ++ two d
def fmtL (y m d h : Int) : List UInt8 := if h = 0 then dayL y m d else dayL y m d ++ ([84] ++ two h)
/-- A text and an error. -/
def StrOut (s : ByteArray) (r : Int) (w : World) (e : Ending) (w' : World) : Prop := e = .returned (.tuple #[.string s, .int .i64 r]) ∧ Below w.heap.size w w'
theorem heldK3 {W0 wk w' : World} {p : Nat} {y m d : Int} (D0 : TriAt W0 p y m d) (h : wk.cell? ⟨p, 0, none⟩ = some (.int .i64 y) ∧ wk.cell? ⟨p, 1, none⟩ = some (.int .i64 m) ∧ wk.cell? ⟨p, 2, none⟩ = some (.int .i64 d) ∧ Below W0.heap.size W0 wk) (hB : Below wk.heap.size wk w') :
    w'.cell? ⟨p, 0, none⟩ = some (.int .i64 y) ∧ w'.cell? ⟨p, 1, none⟩ = some (.int .i64 m) ∧ w'.cell? ⟨p, 2, none⟩ = some (.int .i64 d) ∧ Below W0.heap.size W0 w' := by
  have b := trans_at h.2.2.2 hB
  have D := D0.keep b
  exact ⟨D.2.1, D.2.2.1, D.2.2.2.1, b⟩

theorem format_no (n : Int) (w : World) (h : ¬ (0 ≤ n ∧ n ≤ 876599)) : Calls Tryz.prog 138 #[.int .i64 n] w (StrOut { data := #[] } 1 w) := by
  have c := Lib.hid (civil_no n w h)
  clear h
  go_enter Tryz.func138, Tryz.ntmps138
  go_wp2_with fail
  refine c.out.mono ?_; rintro e W1 ⟨rfl, hB⟩
  have b1 := Lib.hid (trans_at hB (alloc1 W1 (.cells #[.int .i64 0, .int .i64 0, .int .i64 0] 143)))
  clear hB
  go_wp2_with fail
  go_ret2
  exact ⟨rfl, b1.out⟩

set_option maxHeartbeats 8000000 in
theorem format_w0 (n y m d h A B : Int) (tA tB tm td th s1 s2 s3 s4 s5 s6 s7 : ByteArray) (w : World) (c : Hid (Calls Tryz.prog 159 #[.int .i64 n] w (CivOut y m d h 0 w)))
    (h0 : (h == 0) = true) (h9 : (h != 0) = false) (y1 : 2000 ≤ y) (y2 : y ≤ 2099) (hA1 : Hid (y.tdiv 100 = A)) (hB1 : Hid (y.tmod 100 = B)) (hAw : Hid (IntKind.i64.wrap A = A)) (hA2 : Hid (y / 100 = A)) (hB2 : Hid (y % 100 = B))
    (cA : Hid (∀ w, Calls Tryz.prog 160 #[.int .i64 A] w (StrBe tA w))) (cB : Hid (∀ w, Calls Tryz.prog 160 #[.int .i64 B] w (StrBe tB w)))
    (cm : Hid (∀ w, Calls Tryz.prog 160 #[.int .i64 m] w (StrBe tm w))) (cd : Hid (∀ w, Calls Tryz.prog 160 #[.int .i64 d] w (StrBe td w)))
    (ch : Hid (∀ w, Calls Tryz.prog 160 #[.int .i64 h] w (StrBe th w)))
    (a1 : Hid (∀ w, (Op.stringOp .add tA tB).run Tryz.prog w = .ok (.string s1) w)) (a2 : Hid (∀ w, (Op.stringOp .add s1 { data := #[45] }).run Tryz.prog w = .ok (.string s2) w))
    (a3 : Hid (∀ w, (Op.stringOp .add s2 tm).run Tryz.prog w = .ok (.string s3) w)) (a4 : Hid (∀ w, (Op.stringOp .add s3 { data := #[45] }).run Tryz.prog w = .ok (.string s4) w))
    (a5 : Hid (∀ w, (Op.stringOp .add s4 td).run Tryz.prog w = .ok (.string s5) w)) (a6 : Hid (∀ w, (Op.stringOp .add { data := #[84] } th).run Tryz.prog w = .ok (.string s6) w)) (a7 : Hid (∀ w, (Op.stringOp .add s5 s6).run Tryz.prog w = .ok (.string s7) w)) :
    Calls Tryz.prog 138 #[.int .i64 n] w (StrOut s5 0 w) := by
  go_enter Tryz.func138, Tryz.ntmps138
  go_wp2_with fail
  refine c.out.mono ?_; rintro e W1 ⟨rfl, hB⟩
  have b1 := Lib.hid hB
  clear hB
  go_upto_region 2 with (fail)
  have b2 := Lib.hid (trans_at b1.out (alloc1 W1 (.cells #[.int .i64 y, .int .i64 m, .int .i64 d] 143)))
  have D2 := Lib.hid (TriAt.new W1 y m d)
  clear b1
  generalize hp : W1.heap.size = p1 at D2 ⊢
  generalize W1.alloc (.cells #[.int .i64 y, .int .i64 m, .int .i64 d] 143) = W2 at b2 D2 ⊢
  clear hp
  go_upto_region 4 with (fail)
  have q1 := hA1.out
  have q2 := hB1.out
  have q5 := hAw.out
  have q3 := hA2.out
  have q4 := hB2.out
  have e1 := a1.out
  have e2 := a2.out
  have e3 := a3.out
  have e4 := a4.out
  have e5 := a5.out
  go_region_held3 (fun w' => w'.cell? ⟨p1, 0, none⟩ = some (.int .i64 y) ∧ w'.cell? ⟨p1, 1, none⟩ = some (.int .i64 m) ∧ w'.cell? ⟨p1, 2, none⟩ = some (.int .i64 d) ∧ Below W2.heap.size W2 w')
    (first | exact ⟨D2.out.2.1, D2.out.2.2.1, D2.out.2.2.2.1, below_drewN (Below.refl _ _) 1⟩ | exact heldK3 D2.out (by assumption) hB)
    ((go_at_call 160; (first | (with_reducible refine (cA.out _).mono ?_) | (with_reducible refine (cB.out _).mono ?_) | (with_reducible refine (cm.out _).mono ?_) | (with_reducible refine (cd.out _).mono ?_)); rintro e w' ⟨rfl, hB⟩))
  rename_i hh
  have b3 := Lib.hid (trans_at b2.out hh.2.2.2)
  clear hh q1 q2 q3 q4 q5 e1 e2 e3 e4 e5 b2 D2
  go_wp2_with fail
  go_ret2
  exact ⟨rfl, b3.out⟩
set_option maxHeartbeats 8000000 in
theorem format_w1 (n y m d h A B : Int) (tA tB tm td th s1 s2 s3 s4 s5 s6 s7 : ByteArray) (w : World) (c : Hid (Calls Tryz.prog 159 #[.int .i64 n] w (CivOut y m d h 0 w)))
    (h0 : (h == 0) = false) (h9 : (h != 0) = true) (y1 : 2000 ≤ y) (y2 : y ≤ 2099) (hA1 : Hid (y.tdiv 100 = A)) (hB1 : Hid (y.tmod 100 = B)) (hAw : Hid (IntKind.i64.wrap A = A)) (hA2 : Hid (y / 100 = A)) (hB2 : Hid (y % 100 = B))
    (cA : Hid (∀ w, Calls Tryz.prog 160 #[.int .i64 A] w (StrBe tA w))) (cB : Hid (∀ w, Calls Tryz.prog 160 #[.int .i64 B] w (StrBe tB w)))
    (cm : Hid (∀ w, Calls Tryz.prog 160 #[.int .i64 m] w (StrBe tm w))) (cd : Hid (∀ w, Calls Tryz.prog 160 #[.int .i64 d] w (StrBe td w)))
    (ch : Hid (∀ w, Calls Tryz.prog 160 #[.int .i64 h] w (StrBe th w)))
    (a1 : Hid (∀ w, (Op.stringOp .add tA tB).run Tryz.prog w = .ok (.string s1) w)) (a2 : Hid (∀ w, (Op.stringOp .add s1 { data := #[45] }).run Tryz.prog w = .ok (.string s2) w))
    (a3 : Hid (∀ w, (Op.stringOp .add s2 tm).run Tryz.prog w = .ok (.string s3) w)) (a4 : Hid (∀ w, (Op.stringOp .add s3 { data := #[45] }).run Tryz.prog w = .ok (.string s4) w))
    (a5 : Hid (∀ w, (Op.stringOp .add s4 td).run Tryz.prog w = .ok (.string s5) w)) (a6 : Hid (∀ w, (Op.stringOp .add { data := #[84] } th).run Tryz.prog w = .ok (.string s6) w)) (a7 : Hid (∀ w, (Op.stringOp .add s5 s6).run Tryz.prog w = .ok (.string s7) w)) :
    Calls Tryz.prog 138 #[.int .i64 n] w (StrOut s7 0 w) := by
  go_enter Tryz.func138, Tryz.ntmps138
  go_wp2_with fail
  refine c.out.mono ?_; rintro e W1 ⟨rfl, hB⟩
  have b1 := Lib.hid hB
  clear hB
  go_upto_region 2 with (fail)
  have b2 := Lib.hid (trans_at b1.out (alloc1 W1 (.cells #[.int .i64 y, .int .i64 m, .int .i64 d] 143)))
  have D2 := Lib.hid (TriAt.new W1 y m d)
  clear b1
  generalize hp : W1.heap.size = p1 at D2 ⊢
  generalize W1.alloc (.cells #[.int .i64 y, .int .i64 m, .int .i64 d] 143) = W2 at b2 D2 ⊢
  clear hp
  go_upto_region 4 with (fail)
  have q1 := hA1.out
  have q2 := hB1.out
  have q5 := hAw.out
  have q3 := hA2.out
  have q4 := hB2.out
  have e1 := a1.out
  have e2 := a2.out
  have e3 := a3.out
  have e4 := a4.out
  have e5 := a5.out
  go_region_held3 (fun w' => w'.cell? ⟨p1, 0, none⟩ = some (.int .i64 y) ∧ w'.cell? ⟨p1, 1, none⟩ = some (.int .i64 m) ∧ w'.cell? ⟨p1, 2, none⟩ = some (.int .i64 d) ∧ Below W2.heap.size W2 w')
    (first | exact ⟨D2.out.2.1, D2.out.2.2.1, D2.out.2.2.2.1, below_drewN (Below.refl _ _) 1⟩ | exact heldK3 D2.out (by assumption) hB)
    ((go_at_call 160; (first | (with_reducible refine (cA.out _).mono ?_) | (with_reducible refine (cB.out _).mono ?_) | (with_reducible refine (cm.out _).mono ?_) | (with_reducible refine (cd.out _).mono ?_)); rintro e w' ⟨rfl, hB⟩))
  rename_i hh
  have b3 := Lib.hid (trans_at b2.out hh.2.2.2)
  clear hh q1 q2 q3 q4 q5 e1 e2 e3 e4 e5 b2 D2
  go_wp2_with fail
  refine (ch.out _).mono ?_; rintro e W4 ⟨rfl, hB⟩
  have b4 := Lib.hid (trans_at b3.out hB)
  clear hB b3
  have e6 := a6.out
  have e7 := a7.out
  go_wp2_with fail
  go_ret2
  exact ⟨rfl, b4.out⟩

end Go.Proofs.YtjmipikahaoblaaGreatDoor.Cal
namespace Go.Proofs.YtjmipikahaoblaaGreatDoor.Cal
open Go.RowKit Go.Lib Go.Proofs.YtjmipikahaoblaaGreatDoor.Bas
set_option linter.unusedVariables false

theorem rformat_no (n : Int) (w : World) (h : ¬ (0 ≤ n ∧ n ≤ 876599)) : Calls Tryz.prog 117 #[.int .i64 n] w (StrOut { data := #[] } 1 w) := by
  have c := Lib.hid (rcivil_no n w h)
  clear h
  go_enter Tryz.func117, Tryz.ntmps117
  go_wp2_with fail
  refine c.out.mono ?_; rintro e W1 ⟨rfl, hB⟩
  have b1 := Lib.hid (trans_at hB (alloc1 W1 (.cells #[.int .i64 0, .int .i64 0, .int .i64 0] 143)))
  clear hB
  go_wp2_with fail
  go_ret2
  exact ⟨rfl, b1.out⟩

set_option maxHeartbeats 8000000 in
theorem rformat_w0 (n y m d h : Int) (ty tm td th s1 s2 s3 s4 s5 s6 : ByteArray) (w : World) (c : Hid (Calls Tryz.prog 144 #[.int .i64 n] w (CivOut y m d h 0 w))) (h9 : decide (0 < h) = false)
    (cy : Hid (∀ w, Calls Tryz.prog 143 #[.int .i64 y, .int .i64 4] w (StrBe ty w)))
    (cm : Hid (∀ w, Calls Tryz.prog 143 #[.int .i64 m, .int .i64 2] w (StrBe tm w))) (cd : Hid (∀ w, Calls Tryz.prog 143 #[.int .i64 d, .int .i64 2] w (StrBe td w)))
    (ch : Hid (∀ w, Calls Tryz.prog 143 #[.int .i64 h, .int .i64 2] w (StrBe th w)))
    (a1 : Hid (∀ w, (Op.stringOp .add ty { data := #[45] }).run Tryz.prog w = .ok (.string s1) w)) (a2 : Hid (∀ w, (Op.stringOp .add s1 tm).run Tryz.prog w = .ok (.string s2) w))
    (a3 : Hid (∀ w, (Op.stringOp .add s2 { data := #[45] }).run Tryz.prog w = .ok (.string s3) w)) (a4 : Hid (∀ w, (Op.stringOp .add s3 td).run Tryz.prog w = .ok (.string s4) w))
    (a5 : Hid (∀ w, (Op.stringOp .add s4 { data := #[84] }).run Tryz.prog w = .ok (.string s5) w)) (a6 : Hid (∀ w, (Op.stringOp .add s5 th).run Tryz.prog w = .ok (.string s6) w)) :
    Calls Tryz.prog 117 #[.int .i64 n] w (StrOut s4 0 w) := by
  go_enter Tryz.func117, Tryz.ntmps117
  go_wp2_with fail
  refine c.out.mono ?_; rintro e W1 ⟨rfl, hB⟩
  have b1 := Lib.hid hB
  clear hB
  go_upto_region 2 with (fail)
  have b2 := Lib.hid (trans_at b1.out (alloc1 W1 (.cells #[.int .i64 y, .int .i64 m, .int .i64 d] 143)))
  have D2 := Lib.hid (TriAt.new W1 y m d)
  clear b1
  generalize hp : W1.heap.size = p1 at D2 ⊢
  generalize W1.alloc (.cells #[.int .i64 y, .int .i64 m, .int .i64 d] 143) = W2 at b2 D2 ⊢
  clear hp
  go_upto_region 4 with (fail)
  have e1 := a1.out
  have e2 := a2.out
  have e3 := a3.out
  have e4 := a4.out
  go_region_held3 (fun w' => w'.cell? ⟨p1, 0, none⟩ = some (.int .i64 y) ∧ w'.cell? ⟨p1, 1, none⟩ = some (.int .i64 m) ∧ w'.cell? ⟨p1, 2, none⟩ = some (.int .i64 d) ∧ Below W2.heap.size W2 w')
    (first | exact ⟨D2.out.2.1, D2.out.2.2.1, D2.out.2.2.2.1, below_drewN (Below.refl _ _) 1⟩ | exact heldK3 D2.out (by assumption) hB)
    ((go_at_call 143; (first | (with_reducible refine (cy.out _).mono ?_) | (with_reducible refine (cm.out _).mono ?_) | (with_reducible refine (cd.out _).mono ?_)); rintro e w' ⟨rfl, hB⟩))
  rename_i hh
  have b3 := Lib.hid (trans_at b2.out hh.2.2.2)
  clear hh e1 e2 e3 e4 b2 D2
  go_wp2_with fail
  go_ret2
  exact ⟨rfl, b3.out⟩

set_option maxHeartbeats 8000000 in
theorem rformat_w1 (n y m d h : Int) (ty tm td th s1 s2 s3 s4 s5 s6 : ByteArray) (w : World) (c : Hid (Calls Tryz.prog 144 #[.int .i64 n] w (CivOut y m d h 0 w))) (h9 : decide (0 < h) = true)
    (cy : Hid (∀ w, Calls Tryz.prog 143 #[.int .i64 y, .int .i64 4] w (StrBe ty w)))
    (cm : Hid (∀ w, Calls Tryz.prog 143 #[.int .i64 m, .int .i64 2] w (StrBe tm w))) (cd : Hid (∀ w, Calls Tryz.prog 143 #[.int .i64 d, .int .i64 2] w (StrBe td w)))
    (ch : Hid (∀ w, Calls Tryz.prog 143 #[.int .i64 h, .int .i64 2] w (StrBe th w)))
    (a1 : Hid (∀ w, (Op.stringOp .add ty { data := #[45] }).run Tryz.prog w = .ok (.string s1) w)) (a2 : Hid (∀ w, (Op.stringOp .add s1 tm).run Tryz.prog w = .ok (.string s2) w))
    (a3 : Hid (∀ w, (Op.stringOp .add s2 { data := #[45] }).run Tryz.prog w = .ok (.string s3) w)) (a4 : Hid (∀ w, (Op.stringOp .add s3 td).run Tryz.prog w = .ok (.string s4) w))
    (a5 : Hid (∀ w, (Op.stringOp .add s4 { data := #[84] }).run Tryz.prog w = .ok (.string s5) w)) (a6 : Hid (∀ w, (Op.stringOp .add s5 th).run Tryz.prog w = .ok (.string s6) w)) :
    Calls Tryz.prog 117 #[.int .i64 n] w (StrOut s6 0 w) := by
  go_enter Tryz.func117, Tryz.ntmps117
  go_wp2_with fail
  refine c.out.mono ?_; rintro e W1 ⟨rfl, hB⟩
  have b1 := Lib.hid hB
  clear hB
  go_upto_region 2 with (fail)
  have b2 := Lib.hid (trans_at b1.out (alloc1 W1 (.cells #[.int .i64 y, .int .i64 m, .int .i64 d] 143)))
  have D2 := Lib.hid (TriAt.new W1 y m d)
  clear b1
  generalize hp : W1.heap.size = p1 at D2 ⊢
  generalize W1.alloc (.cells #[.int .i64 y, .int .i64 m, .int .i64 d] 143) = W2 at b2 D2 ⊢
  clear hp
  go_upto_region 4 with (fail)
  have e1 := a1.out
  have e2 := a2.out
  have e3 := a3.out
  have e4 := a4.out
  go_region_held3 (fun w' => w'.cell? ⟨p1, 0, none⟩ = some (.int .i64 y) ∧ w'.cell? ⟨p1, 1, none⟩ = some (.int .i64 m) ∧ w'.cell? ⟨p1, 2, none⟩ = some (.int .i64 d) ∧ Below W2.heap.size W2 w')
    (first | exact ⟨D2.out.2.1, D2.out.2.2.1, D2.out.2.2.2.1, below_drewN (Below.refl _ _) 1⟩ | exact heldK3 D2.out (by assumption) hB)
    ((go_at_call 143; (first | (with_reducible refine (cy.out _).mono ?_) | (with_reducible refine (cm.out _).mono ?_) | (with_reducible refine (cd.out _).mono ?_)); rintro e w' ⟨rfl, hB⟩))
  rename_i hh
  have b3 := Lib.hid (trans_at b2.out hh.2.2.2)
  clear hh e1 e2 e3 e4 b2 D2
  have e5 := a5.out
  go_wp2_with fail
  refine (ch.out _).mono ?_; rintro e W4 ⟨rfl, hB⟩
  have b4 := Lib.hid (trans_at b3.out hB)
  clear hB b3
  have e6 := a6.out
  go_wp2_with fail
  go_ret2
  exact ⟨rfl, b4.out⟩

theorem dgs_two (n : Nat) (h : n < 100) : dgs n 2 = two n := by
  show [dgc (((n / 10 ^ 1 : Nat) : Int) % 10), dgc (((n / 10 ^ 0 : Nat) : Int) % 10)] = [dgc ((n : Int) / 10), dgc ((n : Int) % 10)]
  rw [show ((n / 10 ^ 1 : Nat) : Int) % 10 = (n : Int) / 10 by rw [show (10 : Nat) ^ 1 = 10 from rfl]; omega, show ((n / 10 ^ 0 : Nat) : Int) % 10 = (n : Int) % 10 by rw [show (10 : Nat) ^ 0 = 1 from rfl]; omega]
theorem dgs_four (n : Nat) (h : n < 10000) : dgs n 4 = two ((n : Int) / 100) ++ two ((n : Int) % 100) := by
  show [dgc (((n / 10 ^ 3 : Nat) : Int) % 10), dgc (((n / 10 ^ 2 : Nat) : Int) % 10), dgc (((n / 10 ^ 1 : Nat) : Int) % 10), dgc (((n / 10 ^ 0 : Nat) : Int) % 10)] = [dgc ((n : Int) / 100 / 10), dgc ((n : Int) / 100 % 10), dgc ((n : Int) % 100 / 10), dgc ((n : Int) % 100 % 10)]
  rw [show ((n / 10 ^ 3 : Nat) : Int) % 10 = (n : Int) / 100 / 10 by rw [show (10 : Nat) ^ 3 = 1000 from rfl]; omega, show ((n / 10 ^ 2 : Nat) : Int) % 10 = (n : Int) / 100 % 10 by rw [show (10 : Nat) ^ 2 = 100 from rfl]; omega,
    show ((n / 10 ^ 1 : Nat) : Int) % 10 = (n : Int) % 100 / 10 by rw [show (10 : Nat) ^ 1 = 10 from rfl]; omega, show ((n / 10 ^ 0 : Nat) : Int) % 10 = (n : Int) % 100 % 10 by rw [show (10 : Nat) ^ 0 = 1 from rfl]; omega]
theorem two_len (n : Int) : (two n).length = 2 := rfl
theorem dig2 (n : Int) (w : World) (h0 : 0 ≤ n) (h1 : n < 100) : Calls Tryz.prog 143 #[.int .i64 n, .int .i64 2] w (StrBe (tx (two n)) w) := by
  have := digits_any n.toNat 2 w (by omega) (by rw [show (10 : Nat) ^ 2 = 100 from rfl]; omega)
  rw [dgs_two n.toNat (by omega), show ((n.toNat : Nat) : Int) = n by omega] at this
  exact this
theorem dig4 (n : Int) (w : World) (h0 : 0 ≤ n) (h1 : n < 10000) : Calls Tryz.prog 143 #[.int .i64 n, .int .i64 4] w (StrBe (tx (two (n / 100) ++ two (n % 100))) w) := by
  have := digits_any n.toNat 4 w (by omega) (by rw [show (10 : Nat) ^ 4 = 10000 from rfl]; omega)
  rw [dgs_four n.toNat (by omega), show ((n.toNat : Nat) : Int) = n by omega] at this
  exact this
/-- The text of an hour; what Format returns. -/
def fmtT (n : Int) : ByteArray := tx (fmtL (yr (n / 24)) (mo (n / 24)) (da (n / 24)) (n % 24))
def fmtV (n : Int) : ByteArray × Int := if 0 ≤ n ∧ n ≤ 876599 then (fmtT n, 0) else ({ data := #[] }, 1)
theorem format_any (n : Int) (w : World) (hT : Tab w) : Calls Tryz.prog 138 #[.int .i64 n] w (StrOut (fmtV n).1 (fmtV n).2 w) := by
  unfold fmtV
  by_cases hr : 0 ≤ n ∧ n ≤ 876599
  · rw [if_pos hr]
    have c := Lib.hid (civil_yes n w hT hr.1 hr.2)
    have o := (day_of n hr.1 hr.2).1
    unfold fmtT
    have h0 : 0 ≤ n % 24 := by omega
    have h1 : n % 24 < 24 := by omega
    generalize yr (n / 24) = y at *
    generalize mo (n / 24) = m at *
    generalize da (n / 24) = d at *
    generalize n % 24 = h at *
    obtain ⟨y1, y2, m1, m2, d1, d2⟩ := o
    have mb := md_bd y m
    have cA := Lib.hid (fun w => two_any (y / 100) w (by omega) (by omega))
    have cB := Lib.hid (fun w => two_any (y % 100) w (by omega) (by omega))
    have cm := Lib.hid (fun w => two_any m w (by omega) (by omega))
    have cd := Lib.hid (fun w => two_any d w (by omega) (by omega))
    have ch := Lib.hid (fun w => two_any h w (by omega) (by omega))
    have a1 := Lib.hid (fun w => tx_add (two (y / 100)) (two (y % 100)) Tryz.prog w (by simp [two]))
    have a2 := Lib.hid (fun w => tx_add (two (y / 100) ++ two (y % 100)) [45] Tryz.prog w (by simp [two]))
    have a3 := Lib.hid (fun w => tx_add (two (y / 100) ++ two (y % 100) ++ [45]) (two m) Tryz.prog w (by simp [two]))
    have a4 := Lib.hid (fun w => tx_add (two (y / 100) ++ two (y % 100) ++ [45] ++ two m) [45] Tryz.prog w (by simp [two]))
    have a5 := Lib.hid (fun w => tx_add (two (y / 100) ++ two (y % 100) ++ [45] ++ two m ++ [45]) (two d) Tryz.prog w (by simp [two]))
    have a6 := Lib.hid (fun w => tx_add [84] (two h) Tryz.prog w (by simp [two]))
    have a7 := Lib.hid (fun w => tx_add (two (y / 100) ++ two (y % 100) ++ [45] ++ two m ++ [45] ++ two d) ([84] ++ two h) Tryz.prog w (by simp [two]))
    have e1 : y.tdiv 100 = y / 100 := Int.tdiv_eq_ediv_of_nonneg (by omega)
    have e2 : y.tmod 100 = y % 100 := Int.tmod_eq_emod_of_nonneg (by omega)
    have e3 : IntKind.i64.wrap (y / 100) = y / 100 := Go.IntWalk.i64_in _ (by omega)
    unfold fmtL
    by_cases hh : h = 0
    · rw [if_pos hh]
      exact format_w0 n y m d h _ _ _ _ _ _ _ _ _ _ _ _ _ _ w c (by simp [hh]) (by simp [hh]) y1 y2 (Lib.hid e1) (Lib.hid e2) (Lib.hid e3) (Lib.hid rfl) (Lib.hid rfl) cA cB cm cd ch a1 a2 a3 a4 a5 a6 a7
    · rw [if_neg hh]
      exact format_w1 n y m d h _ _ _ _ _ _ _ _ _ _ _ _ _ _ w c (by simp [hh]) (by simp [hh]) y1 y2 (Lib.hid e1) (Lib.hid e2) (Lib.hid e3) (Lib.hid rfl) (Lib.hid rfl) cA cB cm cd ch a1 a2 a3 a4 a5 a6 a7
  · rw [if_neg hr]; exact format_no n w hr
theorem rformat_any (n : Int) (w : World) : Calls Tryz.prog 117 #[.int .i64 n] w (StrOut (fmtV n).1 (fmtV n).2 w) := by
  unfold fmtV
  by_cases hr : 0 ≤ n ∧ n ≤ 876599
  · rw [if_pos hr]
    have c := Lib.hid (rcivil_yes n w hr.1 hr.2)
    have o := (day_of n hr.1 hr.2).1
    unfold fmtT
    have h0 : 0 ≤ n % 24 := by omega
    have h1 : n % 24 < 24 := by omega
    generalize yr (n / 24) = y at *
    generalize mo (n / 24) = m at *
    generalize da (n / 24) = d at *
    generalize n % 24 = h at *
    obtain ⟨y1, y2, m1, m2, d1, d2⟩ := o
    have mb := md_bd y m
    have cy := Lib.hid (fun w => dig4 y w (by omega) (by omega))
    have cm := Lib.hid (fun w => dig2 m w (by omega) (by omega))
    have cd := Lib.hid (fun w => dig2 d w (by omega) (by omega))
    have ch := Lib.hid (fun w => dig2 h w (by omega) (by omega))
    have a1 := Lib.hid (fun w => tx_add (two (y / 100) ++ two (y % 100)) [45] Tryz.prog w (by simp [two]))
    have a2 := Lib.hid (fun w => tx_add (two (y / 100) ++ two (y % 100) ++ [45]) (two m) Tryz.prog w (by simp [two]))
    have a3 := Lib.hid (fun w => tx_add (two (y / 100) ++ two (y % 100) ++ [45] ++ two m) [45] Tryz.prog w (by simp [two]))
    have a4 := Lib.hid (fun w => tx_add (two (y / 100) ++ two (y % 100) ++ [45] ++ two m ++ [45]) (two d) Tryz.prog w (by simp [two]))
    have a5 := Lib.hid (fun w => tx_add (two (y / 100) ++ two (y % 100) ++ [45] ++ two m ++ [45] ++ two d) [84] Tryz.prog w (by simp [two]))
    have a6 := Lib.hid (fun w => tx_add (two (y / 100) ++ two (y % 100) ++ [45] ++ two m ++ [45] ++ two d ++ [84]) (two h) Tryz.prog w (by simp [two]))
    unfold fmtL
    by_cases hh : h = 0
    · rw [if_pos hh]
      have hz : decide (0 < h) = false := by simp; omega
      exact rformat_w0 n y m d h _ _ _ _ _ _ _ _ _ _ w c hz cy cm cd ch a1 a2 a3 a4 a5 a6
    · rw [if_neg hh]
      have hz : decide (0 < h) = true := by simp; omega
      unfold dayL
      rw [← List.append_assoc (two (y / 100) ++ two (y % 100) ++ [45] ++ two m ++ [45] ++ two d) [84] (two h)]
      exact rformat_w1 n y m d h _ _ _ _ _ _ _ _ _ _ w c hz cy cm cd ch a1 a2 a3 a4 a5 a6
  · rw [if_neg hr]; exact rformat_no n w hr
end Go.Proofs.YtjmipikahaoblaaGreatDoor.Cal
namespace Go.Proofs.YtjmipikahaoblaaGreatDoor.Cal
open Go.RowKit Go.Lib Go.Proofs.YtjmipikahaoblaaGreatDoor.Bas
set_option linter.unusedVariables false

theorem bz_tx (l : List UInt8) (i : Nat) (h : i < l.length) : bz (tx l) i = l[i].toNat := by
  rw [bz_at _ _ (by rw [tx_size]; exact h)]
  congr 1
theorem dgB_dgc (k : Int) (h0 : 0 ≤ k) (h1 : k ≤ 9) : dgB (dgc k).toNat = true := by
  rw [dgB_iff]; have := dgc_nat k h0 h1; omega
/-- The places of a text that begins as a day's. -/
theorem places (y m d : Int) (r : List UInt8) : bz (tx (dayL y m d ++ r)) 0 = (dgc (y / 100 / 10)).toNat ∧ bz (tx (dayL y m d ++ r)) 1 = (dgc (y / 100 % 10)).toNat ∧ bz (tx (dayL y m d ++ r)) 2 = (dgc (y % 100 / 10)).toNat ∧ bz (tx (dayL y m d ++ r)) 3 = (dgc (y % 100 % 10)).toNat ∧
    bz (tx (dayL y m d ++ r)) 4 = 45 ∧ bz (tx (dayL y m d ++ r)) 5 = (dgc (m / 10)).toNat ∧ bz (tx (dayL y m d ++ r)) 6 = (dgc (m % 10)).toNat ∧ bz (tx (dayL y m d ++ r)) 7 = 45 ∧ bz (tx (dayL y m d ++ r)) 8 = (dgc (d / 10)).toNat ∧ bz (tx (dayL y m d ++ r)) 9 = (dgc (d % 10)).toNat := by
  have hl : (dayL y m d ++ r).length = 10 + r.length := by simp [dayL, two]; omega
  refine ⟨?_, ?_, ?_, ?_, ?_, ?_, ?_, ?_, ?_, ?_⟩ <;> rw [bz_tx _ _ (by omega)] <;> simp [dayL, two]
theorem part_txt (y m d : Int) (r : List UInt8) (y1 : 2000 ≤ y) (y2 : y ≤ 2099) (m1 : 1 ≤ m) (m2 : m ≤ 12) (d1 : 1 ≤ d) (d2 : d ≤ 31) : part (tx (dayL y m d ++ r)) ∧ val (tx (dayL y m d ++ r)) 0 4 = y ∧ val (tx (dayL y m d ++ r)) 5 2 = m ∧ val (tx (dayL y m d ++ r)) 8 2 = d := by
  obtain ⟨p0, p1, p2, p3, p4, p5, p6, p7, p8, p9⟩ := places y m d r
  refine ⟨⟨(digs_four _ _).2 ⟨?_, ?_, ?_, ?_⟩, p4, (digs_two _ _).2 ⟨?_, ?_⟩, p7, (digs_two _ _).2 ⟨?_, ?_⟩⟩, ?_, ?_, ?_⟩
  · rw [p0]; exact dgB_dgc _ (by omega) (by omega)
  · rw [p1]; exact dgB_dgc _ (by omega) (by omega)
  · rw [p2]; exact dgB_dgc _ (by omega) (by omega)
  · rw [p3]; exact dgB_dgc _ (by omega) (by omega)
  · rw [p5]; exact dgB_dgc _ (by omega) (by omega)
  · rw [p6]; exact dgB_dgc _ (by omega) (by omega)
  · rw [p8]; exact dgB_dgc _ (by omega) (by omega)
  · rw [p9]; exact dgB_dgc _ (by omega) (by omega)
  · show (((0 * 10 + ((bz _ (0 + 0) : Int) - 48)) * 10 + ((bz _ (0 + 1) : Int) - 48)) * 10 + ((bz _ (0 + 2) : Int) - 48)) * 10 + ((bz _ (0 + 3) : Int) - 48) = y
    rw [p0, p1, p2, p3]
    have a0 := dgc_nat (y / 100 / 10) (by omega) (by omega)
    have a1 := dgc_nat (y / 100 % 10) (by omega) (by omega)
    have a2 := dgc_nat (y % 100 / 10) (by omega) (by omega)
    have a3 := dgc_nat (y % 100 % 10) (by omega) (by omega)
    omega
  · show (0 * 10 + ((bz _ (5 + 0) : Int) - 48)) * 10 + ((bz _ (5 + 1) : Int) - 48) = m
    rw [p5, p6]
    have a0 := dgc_nat (m / 10) (by omega) (by omega)
    have a1 := dgc_nat (m % 10) (by omega) (by omega)
    omega
  · show (0 * 10 + ((bz _ (8 + 0) : Int) - 48)) * 10 + ((bz _ (8 + 1) : Int) - 48) = d
    rw [p8, p9]
    have a0 := dgc_nat (d / 10) (by omega) (by omega)
    have a1 := dgc_nat (d % 10) (by omega) (by omega)
    omega
theorem parse_txt (y m d h : Int) (ok : okD y m d) (h0 : 0 ≤ h) (h1 : h < 24) : parseV (tx (fmtL y m d h)) = (24 * num y m d + h, 0) := by
  obtain ⟨y1, y2, m1, m2, d1, d2⟩ := ok
  have mb := md_bd y m
  have hv : hourV y m d h = (24 * num y m d + h, 0) := by unfold hourV; rw [if_pos ⟨⟨y1, y2, m1, m2, d1, d2⟩, h0, h1⟩]
  unfold fmtL
  by_cases hh : h = 0
  · rw [if_pos hh]
    have p := part_txt y m d [] y1 y2 m1 m2 d1 (by omega)
    rw [List.append_nil] at p
    have hd : hasF (tx (dayL y m d)) dayF := (day_iff _).2 ⟨by rw [tx_size]; rfl, p.1⟩
    unfold parseV
    rw [if_pos hd, p.2.1, p.2.2.1, p.2.2.2]
    subst hh
    exact hv
  · rw [if_neg hh]
    have p := part_txt y m d ([84] ++ two h) y1 y2 m1 m2 d1 (by omega)
    have hl : (dayL y m d ++ ([84] ++ two h)).length = 13 := rfl
    have q0 : bz (tx (dayL y m d ++ ([84] ++ two h))) 10 = 84 := by rw [bz_tx _ _ (by omega)]; simp [dayL, two]
    have q1 : bz (tx (dayL y m d ++ ([84] ++ two h))) 11 = (dgc (h / 10)).toNat := by rw [bz_tx _ _ (by omega)]; simp [dayL, two]
    have q2 : bz (tx (dayL y m d ++ ([84] ++ two h))) 12 = (dgc (h % 10)).toNat := by rw [bz_tx _ _ (by omega)]; simp [dayL, two]
    have hh2 : hasF (tx (dayL y m d ++ ([84] ++ two h))) hourF := (hour_iff _).2 ⟨by rw [tx_size]; rfl, p.1, q0, (digs_two _ _).2 ⟨by rw [q1]; exact dgB_dgc _ (by omega) (by omega), by rw [q2]; exact dgB_dgc _ (by omega) (by omega)⟩⟩
    have hn : ¬ hasF (tx (dayL y m d ++ ([84] ++ two h))) dayF := fun e => by have := ((day_iff _).1 e).1; rw [tx_size, hl] at this; omega
    have hx : val (tx (dayL y m d ++ ([84] ++ two h))) 11 2 = h := by
      show (0 * 10 + ((bz _ (11 + 0) : Int) - 48)) * 10 + ((bz _ (11 + 1) : Int) - 48) = h
      rw [q1, q2]
      have a0 := dgc_nat (h / 10) (by omega) (by omega)
      have a1 := dgc_nat (h % 10) (by omega) (by omega)
      omega
    unfold parseV
    rw [if_neg hn, if_pos hh2, p.2.1, p.2.2.1, p.2.2.2, hx]
    exact hv
theorem parse_fmt (n : Int) (h0 : 0 ≤ n) (h1 : n ≤ 876599) : parseV (fmtT n) = (n, 0) := by
  have o := day_of n h0 h1
  unfold fmtT
  rw [parse_txt _ _ _ _ o.1 (by omega) (by omega)]
  rw [o.2]
  congr 1
  omega
theorem fmtT_size (n : Int) : (fmtT n).size ≤ 13 ∧ 10 ≤ (fmtT n).size := by
  unfold fmtT fmtL
  rw [tx_size]
  split
  · show 10 ≤ 13 ∧ 10 ≤ 10; omega
  · show 13 ≤ 13 ∧ 10 ≤ 13; omega
end Go.Proofs.YtjmipikahaoblaaGreatDoor.Cal
