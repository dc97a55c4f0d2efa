/- CalendarNext's walk. (Written by gen_next.py.) -/
import Derived.Test.YtlhgjhdeidhibaaDoorCalLaw0
namespace Go.Proofs.YtlhgjhdeidhibaaDoor.Cal
open Go.RowKit Go.Lib Go.Proofs.YtlhgjhdeidhibaaDoor.Bas
set_option linter.unusedVariables false

/-- The day after a day. -/
theorem next_day (N : Int) (h0 : 0 ≤ N) (h1 : N + 1 ≤ 36524) : (yr (N + 1) = yr N ∧ mo (N + 1) = mo N ∧ da (N + 1) = da N + 1) ∨ (yr (N + 1) = yr N ∧ mo (N + 1) = mo N + 1 ∧ da (N + 1) = 1 ∧ 28 ≤ da N) ∨
    (yr (N + 1) = yr N + 1 ∧ mo (N + 1) = 1 ∧ da (N + 1) = 1 ∧ mo N = 12 ∧ da N = 31) := by
  obtain ⟨o, e⟩ := civ_ok N h0 (by omega)
  generalize yr N = y at *
  generalize mo N = m at *
  generalize da N = d at *
  obtain ⟨y1, y2, m1, m2, d1, d2⟩ := o
  have mb := md_bd y m
  by_cases hd : d < md y m
  · exact Or.inl (civ_eq (N + 1) y m (d + 1) ⟨y1, y2, m1, m2, by omega, by omega⟩ (by unfold num at *; omega))
  · have hs := cum_succ y m m1 m2
    by_cases hm : m < 12
    · have mb2 := md_bd y (m + 1)
      have := civ_eq (N + 1) y (m + 1) 1 ⟨y1, y2, by omega, by omega, by omega, by omega⟩ (by unfold num at *; omega)
      exact Or.inr (Or.inl ⟨this.1, this.2.1, this.2.2, by omega⟩)
    · obtain rfl : m = 12 := by omega
      have h31 : md y 12 = 31 := rfl
      have he := cum_end y
      rw [show (12 : Int) + 1 = 13 from rfl] at hs
      have hb := dby_succ y
      have mb2 := md_bd (y + 1) 1
      have hy : y + 1 ≤ 2099 := by
        by_cases e2 : y = 2099
        · subst e2
          have := dby_hi
          rw [show (2099 : Int) + 1 = 2100 from rfl] at hb
          unfold num at e
          omega
        · omega
      have := civ_eq (N + 1) (y + 1) 1 1 ⟨by omega, hy, by omega, by omega, by omega, by omega⟩ (by have := cum_one (y + 1); unfold num at *; omega)
      exact Or.inr (Or.inr ⟨this.1, this.2.1, this.2.2, rfl, by omega⟩)

set_option maxHeartbeats 4000000 in
theorem next_a (n q y m d k : Int) (w : World) (hT : Hid (Tab w)) (y1 : 2000 ≤ y) (y2 : y ≤ 2099) (m1 : 1 ≤ m) (m2 : m ≤ 12) (d1 : 1 ≤ d) (d2 : d ≤ 31) (q1 : 0 ≤ q) (q2 : q ≤ 876575) (f1 : (y == y + 1) = false) (f2 : (m == m + 1) = false)
    (c0 : Hid (∀ w, Calls Tryd.prog 19 #[.int .i64 n, .int .i64 876576] w fun e w' => e = .returned (.int .i64 q) ∧ w = w'))
    (c1 : Hid (∀ w, Tab w → Calls Tryd.prog 13 #[.int .i64 q] w (CivOut y m d k 0 w))) (c2 : Hid (∀ w, Tab w → Calls Tryd.prog 13 #[.int .i64 (q + 24)] w (CivOut y m (d + 1) k 0 w))) :
    Calls Tryd.prog 5 #[.int .i64 n] w (BoolBe true w) := by
  have c6 := Lib.hid awake_any
  go_enter Tryd.func5, Tryd.ntmps5
  go_wp2_with fail
  refine (c0.out _).mono ?_; rintro e w' ⟨rfl, rfl⟩
  go_wp2_with fail
  refine (c1.out _ hT.out).mono ?_; rintro e W1 ⟨rfl, hB⟩
  have b1 := Lib.hid hB
  clear hB
  go_upto_region 3 with (fail)
  have b2 := Lib.hid (trans_at b1.out (alloc1 W1 (.cells #[.int .i64 y, .int .i64 m, .int .i64 d] 23)))
  have D2 := Lib.hid (TriAt.new W1 y m d)
  clear b1
  generalize hp : W1.heap.size = p1 at D2 ⊢
  generalize W1.alloc (.cells #[.int .i64 y, .int .i64 m, .int .i64 d] 23) = W2 at b2 D2 ⊢
  clear hp
  go_wp2_with fail
  refine (c2.out _ (hT.out.keep b2.out)).mono ?_; rintro e W3 ⟨rfl, hB⟩
  have b3 := Lib.hid (trans_at b2.out hB)
  have D3 := Lib.hid (D2.out.keep hB)
  clear hB b2 D2
  go_upto_region 4 with (fail)
  have b4 := Lib.hid (trans_at b3.out (alloc1 W3 (.cells #[.int .i64 y, .int .i64 m, .int .i64 (d + 1)] 23)))
  have D4 := Lib.hid (D3.out.keep (alloc1 W3 (.cells #[.int .i64 y, .int .i64 m, .int .i64 (d + 1)] 23)))
  have E4 := Lib.hid (TriAt.new W3 (y) (m) ((d + 1)))
  clear b3 D3
  generalize hp : W3.heap.size = p2 at E4 ⊢
  generalize W3.alloc (.cells #[.int .i64 y, .int .i64 m, .int .i64 (d + 1)] 23) = W4 at b4 D4 E4 ⊢
  clear hp
  obtain ⟨-, k0, k1, k2, -⟩ := D4.out
  obtain ⟨-, j0, j1, j2, -⟩ := E4.out
  go_wp2_with fail
  refine (c6.out _ (hT.out.keep b4.out)).mono ?_; rintro e W7 ⟨rfl, hB⟩
  have b7 := Lib.hid (trans_at b4.out hB)
  clear hB b4
  go_wp2_with fail
  go_ret
  exact ⟨rfl, b7.out⟩
set_option maxHeartbeats 4000000 in
theorem next_b (n q y m d k : Int) (w : World) (hT : Hid (Tab w)) (y1 : 2000 ≤ y) (y2 : y ≤ 2099) (m1 : 1 ≤ m) (m2 : m ≤ 12) (d1 : 1 ≤ d) (d2 : d ≤ 31) (q1 : 0 ≤ q) (q2 : q ≤ 876575) (f1 : (y == y + 1) = false) (f2 : (m + 1 == m) = false) (f3 : 28 ≤ d)
    (c0 : Hid (∀ w, Calls Tryd.prog 19 #[.int .i64 n, .int .i64 876576] w fun e w' => e = .returned (.int .i64 q) ∧ w = w'))
    (c1 : Hid (∀ w, Tab w → Calls Tryd.prog 13 #[.int .i64 q] w (CivOut y m d k 0 w))) (c2 : Hid (∀ w, Tab w → Calls Tryd.prog 13 #[.int .i64 (q + 24)] w (CivOut y (m + 1) 1 k 0 w))) :
    Calls Tryd.prog 5 #[.int .i64 n] w (BoolBe true w) := by
  have c6 := Lib.hid awake_any
  go_enter Tryd.func5, Tryd.ntmps5
  go_wp2_with fail
  refine (c0.out _).mono ?_; rintro e w' ⟨rfl, rfl⟩
  go_wp2_with fail
  refine (c1.out _ hT.out).mono ?_; rintro e W1 ⟨rfl, hB⟩
  have b1 := Lib.hid hB
  clear hB
  go_upto_region 3 with (fail)
  have b2 := Lib.hid (trans_at b1.out (alloc1 W1 (.cells #[.int .i64 y, .int .i64 m, .int .i64 d] 23)))
  have D2 := Lib.hid (TriAt.new W1 y m d)
  clear b1
  generalize hp : W1.heap.size = p1 at D2 ⊢
  generalize W1.alloc (.cells #[.int .i64 y, .int .i64 m, .int .i64 d] 23) = W2 at b2 D2 ⊢
  clear hp
  go_wp2_with fail
  refine (c2.out _ (hT.out.keep b2.out)).mono ?_; rintro e W3 ⟨rfl, hB⟩
  have b3 := Lib.hid (trans_at b2.out hB)
  have D3 := Lib.hid (D2.out.keep hB)
  clear hB b2 D2
  go_upto_region 4 with (fail)
  have b4 := Lib.hid (trans_at b3.out (alloc1 W3 (.cells #[.int .i64 y, .int .i64 (m + 1), .int .i64 1] 23)))
  have D4 := Lib.hid (D3.out.keep (alloc1 W3 (.cells #[.int .i64 y, .int .i64 (m + 1), .int .i64 1] 23)))
  have E4 := Lib.hid (TriAt.new W3 (y) ((m + 1)) (1))
  clear b3 D3
  generalize hp : W3.heap.size = p2 at E4 ⊢
  generalize W3.alloc (.cells #[.int .i64 y, .int .i64 (m + 1), .int .i64 1] 23) = W4 at b4 D4 E4 ⊢
  clear hp
  obtain ⟨-, k0, k1, k2, -⟩ := D4.out
  obtain ⟨-, j0, j1, j2, -⟩ := E4.out
  go_wp2_with fail
  refine (c6.out _ (hT.out.keep b4.out)).mono ?_; rintro e W7 ⟨rfl, hB⟩
  have b7 := Lib.hid (trans_at b4.out hB)
  clear hB b4
  go_wp2_with fail
  go_ret
  exact ⟨rfl, b7.out⟩
set_option maxHeartbeats 4000000 in
theorem next_c (n q y m d k : Int) (w : World) (hT : Hid (Tab w)) (y1 : 2000 ≤ y) (y2 : y ≤ 2099) (m1 : 1 ≤ m) (m2 : m ≤ 12) (d1 : 1 ≤ d) (d2 : d ≤ 31) (q1 : 0 ≤ q) (q2 : q ≤ 876575) (f1 : (y + 1 == y) = false)
    (c0 : Hid (∀ w, Calls Tryd.prog 19 #[.int .i64 n, .int .i64 876576] w fun e w' => e = .returned (.int .i64 q) ∧ w = w'))
    (c1 : Hid (∀ w, Tab w → Calls Tryd.prog 13 #[.int .i64 q] w (CivOut y 12 31 k 0 w))) (c2 : Hid (∀ w, Tab w → Calls Tryd.prog 13 #[.int .i64 (q + 24)] w (CivOut (y + 1) 1 1 k 0 w))) :
    Calls Tryd.prog 5 #[.int .i64 n] w (BoolBe true w) := by
  have c6 := Lib.hid awake_any
  go_enter Tryd.func5, Tryd.ntmps5
  go_wp2_with fail
  refine (c0.out _).mono ?_; rintro e w' ⟨rfl, rfl⟩
  go_wp2_with fail
  refine (c1.out _ hT.out).mono ?_; rintro e W1 ⟨rfl, hB⟩
  have b1 := Lib.hid hB
  clear hB
  go_upto_region 3 with (fail)
  have b2 := Lib.hid (trans_at b1.out (alloc1 W1 (.cells #[.int .i64 y, .int .i64 12, .int .i64 31] 23)))
  have D2 := Lib.hid (TriAt.new W1 y 12 31)
  clear b1
  generalize hp : W1.heap.size = p1 at D2 ⊢
  generalize W1.alloc (.cells #[.int .i64 y, .int .i64 12, .int .i64 31] 23) = W2 at b2 D2 ⊢
  clear hp
  go_wp2_with fail
  refine (c2.out _ (hT.out.keep b2.out)).mono ?_; rintro e W3 ⟨rfl, hB⟩
  have b3 := Lib.hid (trans_at b2.out hB)
  have D3 := Lib.hid (D2.out.keep hB)
  clear hB b2 D2
  go_upto_region 4 with (fail)
  have b4 := Lib.hid (trans_at b3.out (alloc1 W3 (.cells #[.int .i64 (y + 1), .int .i64 1, .int .i64 1] 23)))
  have D4 := Lib.hid (D3.out.keep (alloc1 W3 (.cells #[.int .i64 (y + 1), .int .i64 1, .int .i64 1] 23)))
  have E4 := Lib.hid (TriAt.new W3 ((y + 1)) (1) (1))
  clear b3 D3
  generalize hp : W3.heap.size = p2 at E4 ⊢
  generalize W3.alloc (.cells #[.int .i64 (y + 1), .int .i64 1, .int .i64 1] 23) = W4 at b4 D4 E4 ⊢
  clear hp
  obtain ⟨-, k0, k1, k2, -⟩ := D4.out
  obtain ⟨-, j0, j1, j2, -⟩ := E4.out
  go_wp2_with fail
  refine (c6.out _ (hT.out.keep b4.out)).mono ?_; rintro e W7 ⟨rfl, hB⟩
  have b7 := Lib.hid (trans_at b4.out hB)
  clear hB b4
  go_wp2_with fail
  go_ret
  exact ⟨rfl, b7.out⟩
theorem next_walk (n : Int) (w : World) (hT : Tab w) (hn : (Lit.int .i64 n).wf = true) : Calls Tryd.prog 5 #[.int .i64 n] w (BoolBe true w) := by
  have hb := Go.bounds_i64 hn
  have c0 := Lib.hid (fun w => within_any n 876576 w hb.1 hb.2 (by omega) (by omega))
  have wb := wi_bd n 876576 (by omega)
  generalize wi n 876576 = q at *
  have c1 := Lib.hid (fun w hT => civil_yes q w hT (by omega) (by omega))
  have c2 := Lib.hid (fun w hT => civil_yes (q + 24) w hT (by omega) (by omega))
  rw [show (q + 24) / 24 = q / 24 + 1 by omega, show (q + 24) % 24 = q % 24 by omega] at c2
  have nd := next_day (q / 24) (by omega) (by omega)
  have o := (day_of q (by omega) (by omega)).1
  unfold okD at o
  have mb := md_bd (yr (q / 24)) (mo (q / 24))
  have hT' := Lib.hid hT
  rcases nd with ⟨e1, e2, e3⟩ | ⟨e1, e2, e3, e4⟩ | ⟨e1, e2, e3, e4, e5⟩
  · rw [e1, e2, e3] at c2
    exact next_a n q _ _ _ _ w hT' (by omega) (by omega) (by omega) (by omega) (by omega) (by omega) (by omega) (by omega) (by simp; omega) (by simp; omega) c0 c1 c2
  · rw [e1, e2, e3] at c2
    exact next_b n q _ _ _ _ w hT' (by omega) (by omega) (by omega) (by omega) (by omega) (by omega) (by omega) (by omega) (by simp; omega) (by simp; omega) e4 c0 c1 c2
  · rw [e1, e2, e3] at c2
    rw [e4, e5] at c1
    exact next_c n q _ 1 1 _ w hT' (by omega) (by omega) (by omega) (by omega) (by omega) (by omega) (by omega) (by omega) (by simp; omega) c0 c1 c2
end Go.Proofs.YtlhgjhdeidhibaaDoor.Cal
