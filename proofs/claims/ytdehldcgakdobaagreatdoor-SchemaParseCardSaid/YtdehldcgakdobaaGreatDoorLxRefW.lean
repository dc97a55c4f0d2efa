/- The reference's letters, digits, words, names and marks. -/
import Derived.Test.YtdehldcgakdobaaGreatDoorLxMark
namespace Go.Proofs.YtdehldcgakdobaaGreatDoor.Lx
open Go.RowKit Go.Lib Go.Proofs.YtdehldcgakdobaaGreatDoor.Bas Go.Proofs.YtdehldcgakdobaaGreatDoor.Cal
set_option linter.unusedVariables false

theorem rletter_any (c : UInt8) (w : World) : Calls Tryz.prog 80 #[.int .u8 (c.toNat : Int)] w (BoolSame (ltr c) w) := by
  unfold ltr
  generalize c.toNat = n
  by_cases h1 : (97 : Int) ≤ (n : Int)
  · have t1 : decide ((97 : Int) ≤ (n : Int)) = true := decide_eq_true h1
    by_cases h2 : (n : Int) ≤ 122
    · rw [show decide (97 ≤ n ∧ n ≤ 122) = true by simp; omega]
      have t2 : decide ((n : Int) ≤ 122) = true := decide_eq_true h2
      clear h1 h2
      go_enter Tryz.func80, Tryz.ntmps80
      go_wp2
      go_ret
      exact ⟨rfl, rfl⟩
    · rw [show decide (97 ≤ n ∧ n ≤ 122) = false by simp; omega]
      have t2 : decide ((n : Int) ≤ 122) = false := decide_eq_false h2
      clear h1 h2
      go_enter Tryz.func80, Tryz.ntmps80
      go_wp2
      go_ret
      exact ⟨rfl, rfl⟩
  · rw [show decide (97 ≤ n ∧ n ≤ 122) = false by simp; omega]
    have t1 : decide ((97 : Int) ≤ (n : Int)) = false := decide_eq_false h1
    clear h1
    go_enter Tryz.func80, Tryz.ntmps80
    go_wp2
    go_ret
    exact ⟨rfl, rfl⟩
theorem rdigit_any (c : UInt8) (w : World) : Calls Tryz.prog 44 #[.int .u8 (c.toNat : Int)] w (BoolSame (dgt c) w) := by
  unfold dgt
  generalize c.toNat = n
  by_cases h1 : (48 : Int) ≤ (n : Int)
  · have t1 : decide ((48 : Int) ≤ (n : Int)) = true := decide_eq_true h1
    by_cases h2 : (n : Int) ≤ 57
    · rw [show decide (48 ≤ n ∧ n ≤ 57) = true by simp; omega]
      have t2 : decide ((n : Int) ≤ 57) = true := decide_eq_true h2
      clear h1 h2
      go_enter Tryz.func44, Tryz.ntmps44
      go_wp2
      go_ret
      exact ⟨rfl, rfl⟩
    · rw [show decide (48 ≤ n ∧ n ≤ 57) = false by simp; omega]
      have t2 : decide ((n : Int) ≤ 57) = false := decide_eq_false h2
      clear h1 h2
      go_enter Tryz.func44, Tryz.ntmps44
      go_wp2
      go_ret
      exact ⟨rfl, rfl⟩
  · rw [show decide (48 ≤ n ∧ n ≤ 57) = false by simp; omega]
    have t1 : decide ((48 : Int) ≤ (n : Int)) = false := decide_eq_false h1
    clear h1
    go_enter Tryz.func44, Tryz.ntmps44
    go_wp2
    go_ret
    exact ⟨rfl, rfl⟩
theorem rWord_empty (w : World) : Calls Tryz.prog 60 #[.string { data := #[] }] w (BoolSame false w) := by
  go_enter Tryz.func60, Tryz.ntmps60
  go_wp2_with fail
  go_ret
  exact ⟨rfl, rfl⟩
theorem rWord_long (s : ByteArray) (w : World) (h1 : 16 < s.size) (h2 : s.size ≤ 9223372036854775807) : Calls Tryz.prog 60 #[.string s] w (BoolSame false w) := by
  have t0 : decide ((s.size : Int) < 1) = false := by simp; omega
  have t0' : decide (s.size < 1) = false := decide_eq_false (by omega)
  have t1 : decide ((16 : Int) < (s.size : Int)) = true := by simp; omega
  have t2 : decide (16 < s.size) = true := by simp; omega
  go_enter Tryz.func60, Tryz.ntmps60
  go_wp2_with fail
  all_goals (try (exfalso; omega; done))
  go_ret
  exact ⟨rfl, rfl⟩
theorem inW_of (c : UInt8) : inW c = (ltr c || (dgt c || decide (c.toNat = 45))) := rfl
set_option maxHeartbeats 4000000 in
theorem rWord_mid (s : ByteArray) (w : World) (h0 : 0 < s.size) (h1 : s.size ≤ 16) (a b : Bool) (ha : ltr s[0] = a) (hb : ((s[s.size - 1]'(by omega)).toNat : Int) = 45 ↔ b = true) (r : Bool) (hr : r = decide (s.size ≤ 16 ∧ a = true ∧ ¬ (b = true) ∧ spn inW (bl s) = s.size)) :
    Calls Tryz.prog 60 #[.string s] w (BoolSame r w) := by
  have c1 := Lib.hid (rletter_any s[0])
  rw [ha] at c1
  have cL := Lib.hid rletter_any
  have cD := Lib.hid rdigit_any
  have hsp := spn_le inW (bl s)
  rw [bl_size] at hsp
  have hsz := Lib.hid (bl_size s)
  have hget := Lib.hid (bl_get s)
  have heq := Lib.hid (spn_eq inW (bl s))
  have hinW := Lib.hid inW_of
  have i1 : (0 : Int) ≤ (s.size : Int) - 1 := by omega
  have i2 : (s.size : Int) - 1 < (s.size : Int) := by omega
  have i3 : ((s.size : Int) - 1).toNat = s.size - 1 := by omega
  have i4 : IntKind.i64.wrap ((s.size : Int) - 1) = (s.size : Int) - 1 := IntWalk.i64_in _ (by omega)
  have i5 : s.size - 1 < s.size := by omega
  have t0 : decide ((s.size : Int) < 1) = false := by simp; omega
  have t0' : decide (s.size < 1) = false := decide_eq_false (by omega)
  have t1 : decide ((16 : Int) < (s.size : Int)) = false := by simp; omega
  have t2 : decide (16 < s.size) = false := by simp; omega
  have hr' := Lib.hid hr
  clear hr ha hsp
  cases a with
  | false =>
    obtain rfl : r = false := by rw [hr'.out]; simp
    clear hb
    go_enter Tryz.func60, Tryz.ntmps60
    go_wp2_with (go_at_call 80; refine (c1.out _).mono ?_; rintro e w' ⟨rfl, rfl⟩)
    all_goals (try (exfalso; omega; done))
    go_ret
    exact ⟨rfl, rfl⟩
  | true =>
    cases b with
    | true =>
      obtain rfl : r = false := by rw [hr'.out]; simp
      have q : (((s[s.size - 1]'(by omega)).toNat : Int) == 45) = true := by simpa using hb.2 rfl
      clear hb
      go_enter Tryz.func60, Tryz.ntmps60
      go_wp2_with (go_at_call 80; refine (c1.out _).mono ?_; rintro e w' ⟨rfl, rfl⟩)
      all_goals (try (exfalso; omega; done))
      go_ret
      exact ⟨rfl, rfl⟩
    | false =>
      have q : (((s[s.size - 1]'(by omega)).toNat : Int) == 45) = false := by
        have : ¬ (((s[s.size - 1]'(by omega)).toNat : Int) = 45) := fun h => by simpa using hb.1 h
        simpa using this
      clear hb
      have hr2 : Hid (r = decide (spn inW (bl s) = s.size)) := Lib.hid (by rw [hr'.out]; congr 1; simp; omega)
      clear hr'
      go_enter Tryz.func60, Tryz.ntmps60
      go_wp2_with (go_at_call 80; refine (c1.out _).mono ?_; rintro e w' ⟨rfl, rfl⟩)
      all_goals (try (exfalso; omega; done))
      go_loop [3] (fun i => ∃ k : Nat, k ≤ s.size ∧ i = .int .i64 k ∧ Hid (∀ j, j < k → inW ((bl s).getD j 0) = true)) (fun i => s.size - (RowKit.intOf i).toNat)
      case atStart => exact ⟨0, Nat.zero_le _, rfl, Lib.hid (fun j hj => by omega)⟩
      case round =>
        obtain ⟨k, hk, rfl, hP⟩ := hrel
        by_cases hlt : k < s.size
        · have hg := Lib.hid (hget.out k hlt)
          have cLk := Lib.hid (cL.out s[k])
          have cDk := Lib.hid (cD.out s[k])
          have hin := Lib.hid (hinW.out s[k])
          have hno : Hid (inW s[k] = false → r = false) := Lib.hid (fun h => by
            rw [hr2.out, heq.out k (by rw [hsz.out]; omega) hP.out (fun _ => by rw [hg.out, h])]
            simp; omega)
          have hyes : Hid (inW s[k] = true → ∀ j, j < k + 1 → inW ((bl s).getD j 0) = true) := Lib.hid (fun h j hj => by
            by_cases e : j < k
            · exact hP.out j e
            · obtain rfl : j = k := by omega
              rw [hg.out, h])
          generalize inW s[k] = v at *
          generalize ltr s[k] = x at *
          generalize dgt s[k] = y at *
          by_cases h45 : s[k].toNat = 45
          · have u1 : ((s[k].toNat : Int) == 45) = true := by simp; omega
            have u2 : ((s[k].toNat : Int) != 45) = false := by simp; omega
            rw [decide_eq_true h45] at hin
            have hP' := Lib.hid (hyes.out (by rw [hin.out]; simp))
            clear h45 hyes hno hin
            cases x <;> cases y
            all_goals
              go_wp2_with (first | (go_at_call 80; refine (cLk.out _).mono ?_; rintro e w' ⟨rfl, rfl⟩) | (go_at_call 44; refine (cDk.out _).mono ?_; rintro e w' ⟨rfl, rfl⟩))
              go_round
              case rel => exact ⟨k + 1, by omega, by go_num, hP'⟩
              case measure => simp [RowKit.intOf]; omega
          · have u1 : ((s[k].toNat : Int) == 45) = false := by simp; omega
            have u2 : ((s[k].toNat : Int) != 45) = true := by simp; omega
            rw [decide_eq_false h45] at hin
            clear h45
            cases x
            · cases y
              · have hv := Lib.hid (hno.out (by rw [hin.out]; rfl))
                clear hyes hno hin
                go_wp2_with (first | (go_at_call 80; refine (cLk.out _).mono ?_; rintro e w' ⟨rfl, rfl⟩) | (go_at_call 44; refine (cDk.out _).mono ?_; rintro e w' ⟨rfl, rfl⟩))
                go_ret
                exact ⟨by rw [hv.out]; rfl, rfl⟩
              · have hP' := Lib.hid (hyes.out (by rw [hin.out]; rfl))
                clear hyes hno hin
                go_wp2_with (first | (go_at_call 80; refine (cLk.out _).mono ?_; rintro e w' ⟨rfl, rfl⟩) | (go_at_call 44; refine (cDk.out _).mono ?_; rintro e w' ⟨rfl, rfl⟩))
                go_round
                case rel => exact ⟨k + 1, by omega, by go_num, hP'⟩
                case measure => simp [RowKit.intOf]; omega
            · have hP' := Lib.hid (hyes.out (by rw [hin.out]; rfl))
              clear hyes hno hin
              go_wp2_with (first | (go_at_call 80; refine (cLk.out _).mono ?_; rintro e w' ⟨rfl, rfl⟩) | (go_at_call 44; refine (cDk.out _).mono ?_; rintro e w' ⟨rfl, rfl⟩))
              go_round
              case rel => exact ⟨k + 1, by omega, by go_num, hP'⟩
              case measure => simp [RowKit.intOf]; omega
        · obtain rfl : k = s.size := by omega
          have hv : Hid (r = true) := Lib.hid (by rw [hr2.out, heq.out s.size (by rw [hsz.out]; omega) hP.out (fun h => by rw [hsz.out] at h; omega)]; simp)
          go_wp2_with fail
          go_ret
          exact ⟨by rw [hv.out]; rfl, rfl⟩
theorem rWord_any (s : ByteArray) (w : World) (hs : s.size ≤ 9223372036854775807) : Calls Tryz.prog 60 #[.string s] w (BoolSame (wordB (bl s)) w) := by
  by_cases h0 : 0 < s.size
  · by_cases h1 : 16 < s.size
    · rw [wordB_bl s h0, decide_eq_false (by omega)]
      exact rWord_long s w h1 hs
    · rw [wordB_bl s h0]
      refine rWord_mid s w h0 (by omega) (ltr s[0]) (decide ((s[s.size - 1]'(by omega)).toNat = 45)) rfl ?_ _ ?_
      · simp; omega
      · congr 1; simp
  · obtain rfl := bl_nil s (by omega)
    exact rWord_empty w
theorem rname_any (s : ByteArray) (w : World) (hs : s.size ≤ 9223372036854775807) : Calls Tryz.prog 42 #[.string s] w (BoolSame (wordB (bl s) && !resB (bl s)) w) := by
  have c1 := Lib.hid (rWord_any s w hs)
  have c2 := Lib.hid (rreserved_any s w)
  generalize wordB (bl s) = a at *
  generalize resB (bl s) = b at *
  cases a <;> cases b
  all_goals
    go_enter Tryz.func42, Tryz.ntmps42
    go_wp2_with (first | (go_at_call 60; refine c1.out.mono ?_; rintro e w' ⟨rfl, rfl⟩) | (go_at_call 61; refine c2.out.mono ?_; rintro e w' ⟨rfl, rfl⟩))
    go_ret
    exact ⟨rfl, rfl⟩
theorem markB_bl (s : ByteArray) : markB (bl s) = ((s.toList == [59]) || ((s.toList == [58]) || ((s.toList == [44]) || ((s.toList == [40]) || (s.toList == [41]))))) := by
  rw [toList_bl]
  unfold markB
  generalize bl s = l
  rw [Bool.eq_iff_iff]
  simp
end Go.Proofs.YtdehldcgakdobaaGreatDoor.Lx
