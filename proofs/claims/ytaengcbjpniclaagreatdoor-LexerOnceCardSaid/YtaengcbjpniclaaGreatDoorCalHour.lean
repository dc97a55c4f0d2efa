/- Hour of package calendar: the number of an hour of a day. -/
import Derived.Test.YtaengcbjpniclaaGreatDoorCalCiv
namespace Go.Proofs.YtaengcbjpniclaaGreatDoor.Cal
open Go.RowKit Go.Lib Go.Proofs.YtaengcbjpniclaaGreatDoor.Bas
set_option linter.unusedVariables false

/-- A bool; nothing of before has changed. -/
def BoolBe (b : Bool) (w : World) (e : Ending) (w' : World) : Prop := e = .returned (.bool b) ∧ Below w.heap.size w w'
/-- A number and an error; nothing of before has changed. -/
def NumOut (x r : Int) (w : World) (e : Ending) (w' : World) : Prop := e = .returned (.tuple #[.int .i64 x, .int .i64 r]) ∧ Below w.heap.size w w'
theorem alloc1 (w : World) (o : Obj) : Below w.heap.size w (w.alloc o) := (Below.refl _ _).alloc (Nat.le_refl _) _

set_option maxHeartbeats 1000000 in
theorem exists_year (y m d : Int) (w : World) (h : y < 2000 ∨ 2099 < y ∨ m < 1 ∨ 12 < m) : Calls Tryz.prog 84 #[.agg #[.int .i64 y, .int .i64 m, .int .i64 d]] w (BoolBe false w) := by
  by_cases h1 : y < 2000
  · clear h
    go_enter Tryz.func84, Tryz.ntmps84
    go_wp2
    go_ret
    exact ⟨rfl, alloc1 _ _⟩
  by_cases h2 : 2099 < y
  · clear h
    go_enter Tryz.func84, Tryz.ntmps84
    go_wp2
    go_ret
    exact ⟨rfl, alloc1 _ _⟩
  by_cases h3 : m < 1
  · clear h
    go_enter Tryz.func84, Tryz.ntmps84
    go_wp2
    go_ret
    exact ⟨rfl, alloc1 _ _⟩
  by_cases h4 : 12 < m
  · clear h
    go_enter Tryz.func84, Tryz.ntmps84
    go_wp2
    go_ret
    exact ⟨rfl, alloc1 _ _⟩
  omega
set_option maxHeartbeats 2000000 in
theorem exists_d1 (y m d z : Int) (w : World) (hy1 : 2000 ≤ y) (hy2 : y ≤ 2099) (hm1 : 1 ≤ m) (hm2 : m ≤ 12) (d1 : decide (1 ≤ d) = false) :
    Calls Tryz.prog 84 #[.agg #[.int .i64 y, .int .i64 m, .int .i64 d]] w (BoolBe false w) := by
  go_enter Tryz.func84, Tryz.ntmps84
  go_wp2_with fail
  try any_goals (exfalso; omega; done)
  go_quiet (fail)
  go_wp2_with fail
  go_ret
  exact ⟨rfl, below_drewN (alloc1 _ _) _⟩
set_option maxHeartbeats 2000000 in
theorem exists_d2 (y m d z : Int) (w : World) (hy1 : 2000 ≤ y) (hy2 : y ≤ 2099) (hm1 : 1 ≤ m) (hm2 : m ≤ 12) (d1 : decide (1 ≤ d) = true) (d3 : decide (d ≤ z) = false) (c : Hid (∀ n, Calls Tryz.prog 71 #[.int .i64 y, .int .i64 m] ((w.alloc (.cells #[.int .i64 y, .int .i64 m, .int .i64 d] 70)).drewN n) fun e w' => e = .returned (.int .i64 z) ∧ ((w.alloc (.cells #[.int .i64 y, .int .i64 m, .int .i64 d] 70)).drewN n) = w')) :
    Calls Tryz.prog 84 #[.agg #[.int .i64 y, .int .i64 m, .int .i64 d]] w (BoolBe false w) := by
  go_enter Tryz.func84, Tryz.ntmps84
  go_wp2_with fail
  try any_goals (exfalso; omega; done)
  go_quiet ((go_at_call 71; exact Calls.quiet_of ((c.out _).mono fun _ _ ⟨he, hw⟩ => ⟨he, 0, hw.symm⟩)))
  go_wp2_with fail
  go_ret
  exact ⟨rfl, below_drewN (alloc1 _ _) _⟩
set_option maxHeartbeats 2000000 in
theorem exists_d3 (y m d z : Int) (w : World) (hy1 : 2000 ≤ y) (hy2 : y ≤ 2099) (hm1 : 1 ≤ m) (hm2 : m ≤ 12) (d1 : decide (1 ≤ d) = true) (d3 : decide (d ≤ z) = true) (c : Hid (∀ n, Calls Tryz.prog 71 #[.int .i64 y, .int .i64 m] ((w.alloc (.cells #[.int .i64 y, .int .i64 m, .int .i64 d] 70)).drewN n) fun e w' => e = .returned (.int .i64 z) ∧ ((w.alloc (.cells #[.int .i64 y, .int .i64 m, .int .i64 d] 70)).drewN n) = w')) :
    Calls Tryz.prog 84 #[.agg #[.int .i64 y, .int .i64 m, .int .i64 d]] w (BoolBe true w) := by
  go_enter Tryz.func84, Tryz.ntmps84
  go_wp2_with fail
  try any_goals (exfalso; omega; done)
  go_quiet ((go_at_call 71; exact Calls.quiet_of ((c.out _).mono fun _ _ ⟨he, hw⟩ => ⟨he, 0, hw.symm⟩)))
  go_wp2_with fail
  go_ret
  exact ⟨rfl, below_drewN (alloc1 _ _) _⟩
theorem exists_day (y m d : Int) (w : World) (hT : Tab w) (hy1 : 2000 ≤ y) (hy2 : y ≤ 2099) (hm1 : 1 ≤ m) (hm2 : m ≤ 12) (b : Bool) (hb : decide (1 ≤ d ∧ d ≤ md y m) = b) :
    Calls Tryz.prog 84 #[.agg #[.int .i64 y, .int .i64 m, .int .i64 d]] w (BoolBe b w) := by
  have c := Lib.hid (fun n => length_any y m ((w.alloc (.cells #[.int .i64 y, .int .i64 m, .int .i64 d] 70)).drewN n) ((hT.keep (alloc1 _ _)).drewN n) hy1 hy2 hm1 hm2)
  subst hb
  by_cases h1 : 1 ≤ d
  · by_cases h2 : d ≤ md y m
    · rw [show decide (1 ≤ d ∧ d ≤ md y m) = true from decide_eq_true ⟨h1, h2⟩]
      exact exists_d3 y m d _ w hy1 hy2 hm1 hm2 (decide_eq_true h1) (decide_eq_true h2) c
    · rw [show decide (1 ≤ d ∧ d ≤ md y m) = false from decide_eq_false (fun h => h2 h.2)]
      exact exists_d2 y m d _ w hy1 hy2 hm1 hm2 (decide_eq_true h1) (decide_eq_false h2) c
  · rw [show decide (1 ≤ d ∧ d ≤ md y m) = false from decide_eq_false (fun h => h1 h.1)]
    exact exists_d1 y m d 0 w hy1 hy2 hm1 hm2 (decide_eq_false h1)
/-- Is there such a day? -/
def okDB (y m d : Int) : Bool := decide (okD y m d)
theorem exists_any (y m d : Int) (w : World) (hT : Tab w) (b : Bool) (hb : okDB y m d = b) :
    Calls Tryz.prog 84 #[.agg #[.int .i64 y, .int .i64 m, .int .i64 d]] w (BoolBe b w) := by
  subst hb
  by_cases h : y < 2000 ∨ 2099 < y ∨ m < 1 ∨ 12 < m
  · rw [show okDB y m d = false from decide_eq_false (by unfold okD; omega)]
    exact exists_year y m d w h
  · exact exists_day y m d w hT (by omega) (by omega) (by omega) (by omega) _ (by unfold okDB okD; congr 1; simp; omega)

set_option maxHeartbeats 1000000 in
theorem hour_no (y m d h : Int) (w : World) (hT : Tab w) (hn : ¬ (okD y m d ∧ 0 ≤ h ∧ h < 24)) : Calls Tryz.prog 67 #[.agg #[.int .i64 y, .int .i64 m, .int .i64 d], .int .i64 h] w (NumOut 0 1 w) := by
  have a1 := Lib.hid (alloc1 w (.cells #[.int .i64 y, .int .i64 m, .int .i64 d] 70))
  have c := Lib.hid (fun b hb => exists_any y m d (w.alloc (.cells #[.int .i64 y, .int .i64 m, .int .i64 d] 70)) (hT.keep (alloc1 _ _)) b hb)
  clear hT
  by_cases ho : okD y m d
  · have co := Lib.hid (c.out true (decide_eq_true ho))
    have hh : h < 0 ∨ 24 ≤ h := by
      by_cases e : h < 0
      · exact Or.inl e
      · exact Or.inr (by by_cases e2 : h < 24; exact absurd ⟨ho, by omega, e2⟩ hn; omega)
    clear hn c ho
    rcases hh with hh | hh
    · go_enter Tryz.func67, Tryz.ntmps67
      go_wp2_with fail
      refine co.out.mono ?_; rintro e w' ⟨rfl, hB⟩
      have hB' := Lib.hid (a1.out.trans (hB.mono a1.out.size))
      clear hB
      go_wp2_with fail
      go_ret2
      exact ⟨rfl, hB'.out⟩
    · have hh2 : ¬ h < 0 := by omega
      go_enter Tryz.func67, Tryz.ntmps67
      go_wp2_with fail
      refine co.out.mono ?_; rintro e w' ⟨rfl, hB⟩
      have hB' := Lib.hid (a1.out.trans (hB.mono a1.out.size))
      clear hB
      go_wp2_with fail
      go_ret2
      exact ⟨rfl, hB'.out⟩
  · have co := Lib.hid (c.out false (decide_eq_false ho))
    clear hn c ho
    go_enter Tryz.func67, Tryz.ntmps67
    go_wp2_with fail
    refine co.out.mono ?_; rintro e w' ⟨rfl, hB⟩
    have hB' := Lib.hid (a1.out.trans (hB.mono a1.out.size))
    clear hB
    go_wp2_with fail
    go_ret2
    exact ⟨rfl, hB'.out⟩

set_option maxHeartbeats 8000000 in
theorem hour_yes (y m d h : Int) (w : World) (hT : Tab w) (ho : okD y m d) (h0 : 0 ≤ h) (h1 : h < 24) : Calls Tryz.prog 67 #[.agg #[.int .i64 y, .int .i64 m, .int .i64 d], .int .i64 h] w (NumOut (24 * num y m d + h) 0 w) := by
  have a1 := Lib.hid (alloc1 w (.cells #[.int .i64 y, .int .i64 m, .int .i64 d] 70))
  have hT1 := hT.keep (alloc1 w (.cells #[.int .i64 y, .int .i64 m, .int .i64 d] 70))
  have co := Lib.hid (exists_any y m d (w.alloc (.cells #[.int .i64 y, .int .i64 m, .int .i64 d] 70)) (hT.keep (alloc1 _ _)) true (decide_eq_true ho))
  obtain ⟨hy1, hy2, hm1, hm2, hd1, hd2⟩ := ho
  have cb := Lib.hid (fun w => before_any y w hy1 hy2)
  have cl := Lib.hid (fun k w hT => length_any y k w hT hy1 hy2)
  have hd3 := (md_bd y m).2
  have hd4 : d ≤ 31 := by omega
  have db := dby_bd y hy1 hy2
  have db1 := db.1
  have db2 := db.2
  have hT1' := Lib.hid hT1
  have hsz : w.heap.size < (w.alloc (.cells #[.int .i64 y, .int .i64 m, .int .i64 d] 70)).heap.size := by simp
  have hsz' := Lib.hid hsz
  clear hT hT1 hd3 db hd2 hsz
  go_enter Tryz.func67, Tryz.ntmps67
  go_wp2_with fail
  refine co.out.mono ?_; rintro e w1 ⟨rfl, hB⟩
  have hc1 : w1.cell? ⟨w.heap.size, 0, none⟩ = some (.int .i64 y) := by rw [hB.cell hsz'.out]; simp
  have hc2 : w1.cell? ⟨w.heap.size, 1, none⟩ = some (.int .i64 m) := by rw [hB.cell hsz'.out]; simp
  have hc3 : w1.cell? ⟨w.heap.size, 2, none⟩ = some (.int .i64 d) := by rw [hB.cell hsz'.out]; simp
  have hT2 := Lib.hid (hT1'.out.keep hB)
  have hB' := Lib.hid (a1.out.trans (hB.mono a1.out.size))
  clear hB
  go_wp2_with fail
  go_quiet ((go_at_call 70; exact Calls.quiet_of ((cb.out _).mono fun _ _ ⟨he, hw⟩ => ⟨he, 0, hw.symm⟩)))
  go_wp2_with fail
  go_loop [6, 7] (fun r k => ∃ m' : Int, 1 ≤ m' ∧ m' ≤ m ∧ k = .int .i64 m' ∧ r = .int .i64 (dby y + d - 1 + cum y m')) (fun _ k => (12 - intOf k).toNat)
  case atStart => exact ⟨1, by omega, by omega, rfl, by rw [cum_one, Int.add_zero]⟩
  case round =>
    obtain ⟨k, hk1, hk2, rfl, rfl⟩ := hrel
    have hk3 : k ≤ 12 := by omega
    have cb2 := cum_bd y k hk1 hk3
    have cb3 := cb2.1
    have cb4 := cb2.2
    clear cb2
    by_cases hlt : k < m
    · have cs := Lib.hid (cum_succ y k hk1 hk3)
      have mb := md_bd y k
      have mb1 := mb.1
      have mb2 := mb.2
      clear mb
      have cl1 := Lib.hid (cl.out k _ (hT2.out.drewN nq) hk1 hk3)
      go_wp2_with (refine cl1.out.mono ?_; rintro e w' ⟨rfl, rfl⟩)
      go_round
      case rel => exact ⟨k + 1, by omega, by omega, rfl, by rw [cs.out]; go_num⟩
      case measure => simp [intOf]; omega
    · obtain rfl : k = m := by omega
      clear hlt
      have hfin : (dby y + d - 1 + cum y k) * 24 + h = 24 * num y k d + h := by unfold num; omega
      have hfin' := Lib.hid hfin
      clear hfin
      go_wp2_with fail
      go_ret2
      refine ⟨?_, below_drewN hB'.out _⟩
      rw [← hfin'.out]
      rfl
end Go.Proofs.YtaengcbjpniclaaGreatDoor.Cal
