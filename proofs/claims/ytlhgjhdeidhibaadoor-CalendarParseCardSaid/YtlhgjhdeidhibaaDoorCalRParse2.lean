/- ParseHour of the reference: its walk. (Written by gen_rparse2.py.) -/
import Derived.Test.YtlhgjhdeidhibaaDoorCalRParse
namespace Go.Proofs.YtlhgjhdeidhibaaDoor.Cal
open Go.RowKit Go.Lib Go.Proofs.YtlhgjhdeidhibaaDoor.Bas
set_option linter.unusedVariables false

theorem rparse_len (s : ByteArray) (w : World) (h100 : s.size ≤ 100) (h1 : s.size ≠ 10) (h2 : s.size ≠ 13) : Calls Tryd.prog 23 #[.string s] w (NumOut 0 5 w) := by
  have t1 : ((s.size : Int) == 10) = false := by simp; omega
  have t2 : ((s.size : Int) == 13) = false := by simp; omega
  have t3 : ((s.size : Int) != 10) = true := by simp; omega
  have t4 : ((s.size : Int) != 13) = true := by simp; omega
  clear h1 h2
  go_enter Tryd.func23, Tryd.ntmps23
  go_wp2
  go_ret2
  exact ⟨rfl, Below.refl _ _⟩
set_option maxHeartbeats 8000000 in
theorem rparse_10 (s : ByteArray) (y m d r1 r2 : Int) (a b c d4 d7 : Bool) (w : World) (hz : s.size ≤ 10) (hz1 : 10 ≤ s.size) (h4 : 4 < s.size) (h7 : 7 < s.size)
    (t4 : ((s[4].toNat : Int) == 45) = d4) (t4' : ((s[4].toNat : Int) != 45) = !d4) (t7 : ((s[7].toNat : Int) == 45) = d7) (t7' : ((s[7].toNat : Int) != 45) = !d7)
    (c1 : Hid (∀ w, Calls Tryd.prog 53 #[.string s, .int .i64 0, .int .i64 4] w fun e w' => e = .returned (.tuple #[.int .i64 y, .bool a]) ∧ w = w'))
    (c2 : Hid (∀ w, Calls Tryd.prog 53 #[.string s, .int .i64 5, .int .i64 7] w fun e w' => e = .returned (.tuple #[.int .i64 m, .bool b]) ∧ w = w'))
    (c3 : Hid (∀ w, Calls Tryd.prog 53 #[.string s, .int .i64 8, .int .i64 10] w fun e w' => e = .returned (.tuple #[.int .i64 d, .bool c]) ∧ w = w'))
    (cH : Hid (∀ w, Calls Tryd.prog 18 #[.agg #[.int .i64 y, .int .i64 m, .int .i64 d], .int .i64 0] w (NumOut r1 r2 w)))
    (q1 q2 : Int) (hq : Hid (((a && b && c && d4 && d7) = true → q1 = r1 ∧ q2 = r2) ∧ ((a && b && c && d4 && d7) = false → q1 = 0 ∧ q2 = 5))) :
    Calls Tryd.prog 23 #[.string s] w (NumOut q1 q2 w) := by
  have z1 : ((s.size : Int) == 10) = true := by simp; omega
  have z2 : ((s.size : Int) == 13) = false := by simp; omega
  have z3 : ((s.size : Int) != 10) = false := by simp; omega
  have z4 : ((s.size : Int) != 13) = true := by simp; omega
  go_enter Tryd.func23, Tryd.ntmps23
  go_wp2_with fail
  refine (c1.out _).mono ?_; rintro e w' ⟨rfl, rfl⟩
  go_wp2_with fail
  refine (c2.out _).mono ?_; rintro e w' ⟨rfl, rfl⟩
  go_wp2_with fail
  refine (c3.out _).mono ?_; rintro e w' ⟨rfl, rfl⟩
  cases a
  · have hqf := Lib.hid (hq.out.2 (by simp))
    go_wp2_with fail
    all_goals go_ret2
    all_goals exact ⟨by rw [hqf.out.1, hqf.out.2]; rfl, Below.refl _ _⟩
  · cases b
    · have hqf := Lib.hid (hq.out.2 (by simp))
      go_wp2_with fail
      all_goals go_ret2
      all_goals exact ⟨by rw [hqf.out.1, hqf.out.2]; rfl, Below.refl _ _⟩
    · cases c
      · have hqf := Lib.hid (hq.out.2 (by simp))
        go_wp2_with fail
        all_goals go_ret2
        all_goals exact ⟨by rw [hqf.out.1, hqf.out.2]; rfl, Below.refl _ _⟩
      · cases d4
        · have hqf := Lib.hid (hq.out.2 (by simp))
          go_wp2_with fail
          all_goals go_ret2
          all_goals exact ⟨by rw [hqf.out.1, hqf.out.2]; rfl, Below.refl _ _⟩
        · cases d7
          · have hqf := Lib.hid (hq.out.2 (by simp))
            go_wp2_with fail
            all_goals go_ret2
            all_goals exact ⟨by rw [hqf.out.1, hqf.out.2]; rfl, Below.refl _ _⟩
          · go_wp2_with fail
            refine (cH.out _).mono ?_; rintro e w2 ⟨rfl, hB⟩
            have hB' := Lib.hid hB
            clear hB
            go_wp2_with fail
            go_ret2
            exact ⟨by rw [(hq.out.1 rfl).1, (hq.out.1 rfl).2]; rfl, hB'.out⟩
set_option maxHeartbeats 8000000 in
theorem rparse_13 (s : ByteArray) (y m d h r1 r2 : Int) (a b c k dT d4 d7 : Bool) (w : World) (hz : s.size ≤ 13) (hz1 : 13 ≤ s.size) (h4 : 4 < s.size) (h7 : 7 < s.size) (hT : 10 < s.size)
    (t4 : ((s[4].toNat : Int) == 45) = d4) (t4' : ((s[4].toNat : Int) != 45) = !d4) (t7 : ((s[7].toNat : Int) == 45) = d7) (t7' : ((s[7].toNat : Int) != 45) = !d7) (tT : ((s[10].toNat : Int) == 84) = dT)
    (c1 : Hid (∀ w, Calls Tryd.prog 53 #[.string s, .int .i64 0, .int .i64 4] w fun e w' => e = .returned (.tuple #[.int .i64 y, .bool a]) ∧ w = w'))
    (c2 : Hid (∀ w, Calls Tryd.prog 53 #[.string s, .int .i64 5, .int .i64 7] w fun e w' => e = .returned (.tuple #[.int .i64 m, .bool b]) ∧ w = w'))
    (c3 : Hid (∀ w, Calls Tryd.prog 53 #[.string s, .int .i64 8, .int .i64 10] w fun e w' => e = .returned (.tuple #[.int .i64 d, .bool c]) ∧ w = w'))
    (c4 : Hid (∀ w, Calls Tryd.prog 53 #[.string s, .int .i64 11, .int .i64 13] w fun e w' => e = .returned (.tuple #[.int .i64 h, .bool k]) ∧ w = w'))
    (cH : Hid (∀ w, Calls Tryd.prog 18 #[.agg #[.int .i64 y, .int .i64 m, .int .i64 d], .int .i64 h] w (NumOut r1 r2 w)))
    (q1 q2 : Int) (hq : Hid (((a && b && c && k && dT && d4 && d7) = true → q1 = r1 ∧ q2 = r2) ∧ ((a && b && c && k && dT && d4 && d7) = false → q1 = 0 ∧ q2 = 5))) :
    Calls Tryd.prog 23 #[.string s] w (NumOut q1 q2 w) := by
  have z1 : ((s.size : Int) == 10) = false := by simp; omega
  have z2 : ((s.size : Int) == 13) = true := by simp; omega
  have z3 : ((s.size : Int) != 10) = true := by simp; omega
  have z4 : ((s.size : Int) != 13) = false := by simp; omega
  go_enter Tryd.func23, Tryd.ntmps23
  go_wp2_with fail
  refine (c1.out _).mono ?_; rintro e w' ⟨rfl, rfl⟩
  go_wp2_with fail
  refine (c2.out _).mono ?_; rintro e w' ⟨rfl, rfl⟩
  go_wp2_with fail
  refine (c3.out _).mono ?_; rintro e w' ⟨rfl, rfl⟩
  go_wp2_with fail
  refine (c4.out _).mono ?_; rintro e w' ⟨rfl, rfl⟩
  cases a
  · have hqf := Lib.hid (hq.out.2 (by simp))
    go_wp2_with fail
    all_goals go_ret2
    all_goals exact ⟨by rw [hqf.out.1, hqf.out.2]; rfl, Below.refl _ _⟩
  · cases b
    · have hqf := Lib.hid (hq.out.2 (by simp))
      go_wp2_with fail
      all_goals go_ret2
      all_goals exact ⟨by rw [hqf.out.1, hqf.out.2]; rfl, Below.refl _ _⟩
    · cases c
      · have hqf := Lib.hid (hq.out.2 (by simp))
        go_wp2_with fail
        all_goals go_ret2
        all_goals exact ⟨by rw [hqf.out.1, hqf.out.2]; rfl, Below.refl _ _⟩
      · cases k
        · have hqf := Lib.hid (hq.out.2 (by simp))
          go_wp2_with fail
          all_goals go_ret2
          all_goals exact ⟨by rw [hqf.out.1, hqf.out.2]; rfl, Below.refl _ _⟩
        · cases dT
          · have hqf := Lib.hid (hq.out.2 (by simp))
            go_wp2_with fail
            all_goals go_ret2
            all_goals exact ⟨by rw [hqf.out.1, hqf.out.2]; rfl, Below.refl _ _⟩
          · cases d4
            · have hqf := Lib.hid (hq.out.2 (by simp))
              go_wp2_with fail
              all_goals go_ret2
              all_goals exact ⟨by rw [hqf.out.1, hqf.out.2]; rfl, Below.refl _ _⟩
            · cases d7
              · have hqf := Lib.hid (hq.out.2 (by simp))
                go_wp2_with fail
                all_goals go_ret2
                all_goals exact ⟨by rw [hqf.out.1, hqf.out.2]; rfl, Below.refl _ _⟩
              · go_wp2_with fail
                refine (cH.out _).mono ?_; rintro e w2 ⟨rfl, hB⟩
                have hB' := Lib.hid hB
                clear hB
                go_wp2_with fail
                go_ret2
                exact ⟨by rw [(hq.out.1 rfl).1, (hq.out.1 rfl).2]; rfl, hB'.out⟩
end Go.Proofs.YtlhgjhdeidhibaaDoor.Cal
