/- Parse of package calendar: what it returns, for all texts. -/
import Derived.Test.YtaengcbjpniclaaGreatDoorCalStr
import Derived.Test.YtaengcbjpniclaaGreatDoorCalCiv
namespace Go.Proofs.YtaengcbjpniclaaGreatDoor.Cal
open Go.RowKit Go.Lib Go.Proofs.YtaengcbjpniclaaGreatDoor.Bas
set_option linter.unusedVariables false

theorem digs_four (s : ByteArray) (i : Nat) : digs s i 4 ↔ dgB (bz s i) = true ∧ dgB (bz s (i + 1)) = true ∧ dgB (bz s (i + 2)) = true ∧ dgB (bz s (i + 3)) = true := by
  constructor
  · intro h; exact ⟨h 0 (by omega), h 1 (by omega), h 2 (by omega), h 3 (by omega)⟩
  · rintro ⟨a, b, c, d⟩ j hj
    rcases (show j = 0 ∨ j = 1 ∨ j = 2 ∨ j = 3 by omega) with e | e | e | e <;> subst e <;> assumption
theorem digs_two (s : ByteArray) (i : Nat) : digs s i 2 ↔ dgB (bz s i) = true ∧ dgB (bz s (i + 1)) = true := by
  constructor
  · intro h; exact ⟨h 0 (by omega), h 1 (by omega)⟩
  · rintro ⟨a, b⟩ j hj
    rcases (show j = 0 ∨ j = 1 by omega) with e | e <;> subst e <;> assumption

def dayF : ByteArray := { data := #[48, 48, 48, 48, 45, 48, 48, 45, 48, 48] }
def hourF : ByteArray := { data := #[48, 48, 48, 48, 45, 48, 48, 45, 48, 48, 84, 48, 48] }
theorem fit_dg (s f : ByteArray) (i : Nat) (h : bz f i = 48) : fitB s f i = dgB (bz s i) := by unfold fitB; rw [if_pos h]
theorem fit_eq (s f : ByteArray) (i c : Nat) (h : bz f i = c) (hc : c ≠ 48) : fitB s f i = true ↔ bz s i = c := by unfold fitB; rw [h, if_neg hc]; simp
/-- The date's part of a form. -/
def part (s : ByteArray) : Prop := digs s 0 4 ∧ bz s 4 = 45 ∧ digs s 5 2 ∧ bz s 7 = 45 ∧ digs s 8 2
theorem part_of (s f : ByteArray) (h0 : ∀ i, i < 10 → bz f i = bz dayF i) : part s ↔ ∀ i, i < 10 → fitB s f i = true := by
  have f0 := fit_dg s f 0 (h0 0 (by omega))
  have f1 := fit_dg s f 1 (h0 1 (by omega))
  have f2 := fit_dg s f 2 (h0 2 (by omega))
  have f3 := fit_dg s f 3 (h0 3 (by omega))
  have f4 := fit_eq s f 4 45 (h0 4 (by omega)) (by omega)
  have f5 := fit_dg s f 5 (h0 5 (by omega))
  have f6 := fit_dg s f 6 (h0 6 (by omega))
  have f7 := fit_eq s f 7 45 (h0 7 (by omega)) (by omega)
  have f8 := fit_dg s f 8 (h0 8 (by omega))
  have f9 := fit_dg s f 9 (h0 9 (by omega))
  unfold part
  rw [digs_four, digs_two, digs_two]
  constructor
  · rintro ⟨⟨a0, a1, a2, a3⟩, a4, ⟨a5, a6⟩, a7, a8, a9⟩ j hj
    rcases (show j = 0 ∨ j = 1 ∨ j = 2 ∨ j = 3 ∨ j = 4 ∨ j = 5 ∨ j = 6 ∨ j = 7 ∨ j = 8 ∨ j = 9 by omega) with e | e | e | e | e | e | e | e | e | e <;> subst e
    · rw [f0]; exact a0
    · rw [f1]; exact a1
    · rw [f2]; exact a2
    · rw [f3]; exact a3
    · exact f4.2 a4
    · rw [f5]; exact a5
    · rw [f6]; exact a6
    · exact f7.2 a7
    · rw [f8]; exact a8
    · rw [f9]; exact a9
  · intro h
    exact ⟨⟨by rw [← f0]; exact h 0 (by omega), by rw [← f1]; exact h 1 (by omega), by rw [← f2]; exact h 2 (by omega), by rw [← f3]; exact h 3 (by omega)⟩, f4.1 (h 4 (by omega)), ⟨by rw [← f5]; exact h 5 (by omega), by rw [← f6]; exact h 6 (by omega)⟩, f7.1 (h 7 (by omega)), by rw [← f8]; exact h 8 (by omega), by rw [← f9]; exact h 9 (by omega)⟩
theorem day_iff (s : ByteArray) : hasF s dayF ↔ s.size = 10 ∧ part s := by
  unfold hasF
  rw [show dayF.size = 10 from rfl]
  constructor
  · rintro ⟨a, b⟩; exact ⟨a, (part_of s dayF (fun _ _ => rfl)).2 (fun i hi => b i (by omega))⟩
  · rintro ⟨a, b⟩; exact ⟨a, fun i hi => (part_of s dayF (fun _ _ => rfl)).1 b i (by omega)⟩
theorem hour_iff (s : ByteArray) : hasF s hourF ↔ s.size = 13 ∧ part s ∧ bz s 10 = 84 ∧ digs s 11 2 := by
  have hp := part_of s hourF (fun i hi => by
    rcases (show i = 0 ∨ i = 1 ∨ i = 2 ∨ i = 3 ∨ i = 4 ∨ i = 5 ∨ i = 6 ∨ i = 7 ∨ i = 8 ∨ i = 9 by omega) with e | e | e | e | e | e | e | e | e | e <;> subst e <;> rfl)
  have f10 := fit_eq s hourF 10 84 rfl (by omega)
  have f11 := fit_dg s hourF 11 rfl
  have f12 := fit_dg s hourF 12 rfl
  unfold hasF
  rw [show hourF.size = 13 from rfl, digs_two, hp]
  constructor
  · rintro ⟨a, b⟩; exact ⟨a, fun i hi => b i (by omega), f10.1 (b 10 (by omega)), by rw [← f11]; exact b 11 (by omega), by rw [← f12]; exact b 12 (by omega)⟩
  · rintro ⟨a, b, c, d, e⟩
    refine ⟨a, fun i hi => ?_⟩
    by_cases hi2 : i < 10
    · exact b i hi2
    · rcases (show i = 10 ∨ i = 11 ∨ i = 12 by omega) with h | h | h <;> subst h
      · exact f10.2 c
      · rw [f11]; exact d
      · rw [f12]; exact e

theorem form_any (s f : ByteArray) (w : World) (h1 : s.size ≤ 9223372036854775807) (h2 : f.size ≤ 13) (r : Bool) (hr : r = decide (hasF s f)) :
    Calls Tryz.prog 65 #[.string s, .string f] w (BoolDr r w) := by
  by_cases hs : s.size = f.size
  · exact form_eq s f w hs h2 r (by rw [hr]; unfold hasF; congr 1; simp [hs])
  · rw [hr, show decide (hasF s f) = false from decide_eq_false (fun h => hs h.1)]
    exact (form_len s f w hs h1 h2).mono fun _ _ ⟨he, hw⟩ => ⟨he, by rw [← hw]; exact Dr.refl _⟩

/-- What Hour returns. -/
def hourV (y m d h : Int) : Int × Int := if okD y m d ∧ 0 ≤ h ∧ h < 24 then (24 * num y m d + h, 0) else (0, 1)
theorem hour_any (y m d h : Int) (w : World) (hT : Tab w) : Calls Tryz.prog 67 #[.agg #[.int .i64 y, .int .i64 m, .int .i64 d], .int .i64 h] w (NumOut (hourV y m d h).1 (hourV y m d h).2 w) := by
  unfold hourV
  by_cases hh : okD y m d ∧ 0 ≤ h ∧ h < 24
  · rw [if_pos hh]; exact hour_yes y m d h w hT hh.1 hh.2.1 hh.2.2
  · rw [if_neg hh]; exact hour_no y m d h w hT hh
/-- What Parse returns. -/
def parseV (s : ByteArray) : Int × Int :=
  if hasF s dayF then hourV (val s 0 4) (val s 5 2) (val s 8 2) 0 else if hasF s hourF then hourV (val s 0 4) (val s 5 2) (val s 8 2) (val s 11 2) else (0, 5)

theorem sub_any (s : ByteArray) (a b n : Nat) (hb : b ≤ s.size) (hn : b = a + n) (hn4 : n ≤ 4) (hd : digs s a n) (v : Int) (hv : val s a n = v) (w : World) :
    Calls Tryz.prog 66 #[.string (s.extract a b)] w fun e w' => e = .returned (.int .i64 v) ∧ w = w' := by
  have hz : (s.extract a b).size = n := by rw [ByteArray.size_extract]; omega
  have := number_any (s.extract a b) w (by omega) (by rw [hz]; exact digs_extract s a b n hb (by omega) hd)
  rw [hz, val_extract s a b n hb (by omega), hv] at this
  exact this

theorem trans_at {a b c : World} (h : Below a.heap.size a b) (k : Below b.heap.size b c) : Below a.heap.size a c := h.trans (k.mono h.size)
theorem below_of_drewN {w w' : World} {n : Nat} (h : Below (w.drewN n).heap.size (w.drewN n) w') : Below w.heap.size w w' := ⟨h.os, h.tape, h.output, h.size, h.block⟩
set_option maxHeartbeats 2000000 in
theorem parse_day (s : ByteArray) (w : World) (hT : Tab w) (h : hasF s dayF) : Calls Tryz.prog 56 #[.string s] w (NumOut (parseV s).1 (parseV s).2 w) := by
  rw [show parseV s = hourV (val s 0 4) (val s 5 2) (val s 8 2) 0 by unfold parseV; rw [if_pos h]]
  obtain ⟨h10, p1, p2, p3, p4, p5⟩ := (day_iff s).1 h
  obtain ⟨y, hy⟩ : ∃ y, val s 0 4 = y := ⟨_, rfl⟩
  obtain ⟨m, hm⟩ : ∃ m, val s 5 2 = m := ⟨_, rfl⟩
  obtain ⟨d, hd⟩ : ∃ d, val s 8 2 = d := ⟨_, rfl⟩
  have c0 := Lib.hid (sub_any s 0 4 4 (by omega) rfl (by omega) p1 y hy)
  have c1 := Lib.hid (sub_any s 5 7 2 (by omega) rfl (by omega) p3 m hm)
  have c2 := Lib.hid (sub_any s 8 10 2 (by omega) rfl (by omega) p5 d hd)
  have cf := Lib.hid (form_any s dayF w (by omega) (by decide) true (by simp [h]))
  have ch := Lib.hid (fun w hT => hour_any y m d 0 w hT)
  have hT' := Lib.hid hT
  rw [hy, hm, hd]
  have hfin : ∃ r1 r2, hourV y m d 0 = (r1, r2) := ⟨_, _, rfl⟩
  obtain ⟨r1, r2, hr⟩ := hfin
  rw [hr] at ch ⊢
  have s10 : s.size ≤ 10 := by omega
  have b4 : (4 : Int) ≤ (s.size : Int) := by omega
  have b7 : (7 : Int) ≤ (s.size : Int) := by omega
  have b10 : (10 : Int) ≤ (s.size : Int) := by omega
  clear h hy hm hd p1 p2 p3 p4 p5 hT hr h10
  unfold dayF at cf
  go_enter Tryz.func56, Tryz.ntmps56
  go_wp2_with fail
  refine cf.out.mono ?_; rintro e w1 ⟨rfl, ⟨n1, rfl⟩⟩
  go_wp2_with fail
  have hT2 := Lib.hid (hT'.out.drewN n1)
  have e4 : ∀ w, (Instr.slice 9 (.string s) none (some (.int .i64 4)) none).run Tryz.prog w = .ok (.string (s.extract 0 4)) w := fun w => run_slice_string_h w _ s Tryz.underlying9 .i64 4 (by omega) b4
  have e7 : ∀ w, (Instr.slice 9 (.string s) (some (.int .i64 5)) (some (.int .i64 7)) none).run Tryz.prog w = .ok (.string (s.extract 5 7)) w := fun w => run_slice_string w _ s .i64 .i64 5 7 Tryz.underlying9 (by omega) (by omega) b7
  have e10 : ∀ w, (Instr.slice 9 (.string s) (some (.int .i64 8)) (some (.int .i64 10)) none).run Tryz.prog w = .ok (.string (s.extract 8 10)) w := fun w => run_slice_string w _ s .i64 .i64 8 10 Tryz.underlying9 (by omega) (by omega) b10
  go_region_held3 (fun w' => Tab w') (first | exact hT2.out | exact Tab.keep (hT'.out.drewN _) hB)
    (first
      | (go_at_call 66; (first | (with_reducible refine (c0.out _).mono ?_) | (with_reducible refine (c1.out _).mono ?_) | (with_reducible refine (c2.out _).mono ?_)); rintro e w' ⟨rfl, rfl⟩)
      | (go_at_call 67; refine (ch.out _ (by assumption)).mono ?_; rintro e w' ⟨rfl, hB⟩))
  go_wp2_with fail
  go_ret2
  exact ⟨rfl, below_of_drewN hB⟩

set_option maxHeartbeats 2000000 in
theorem parse_hour (s : ByteArray) (w : World) (hT : Tab w) (h : hasF s hourF) : Calls Tryz.prog 56 #[.string s] w (NumOut (parseV s).1 (parseV s).2 w) := by
  obtain ⟨h13, ⟨p1, p2, p3, p4, p5⟩, p6, p7⟩ := (hour_iff s).1 h
  have hnd : ¬ hasF s dayF := fun e => by have := ((day_iff s).1 e).1; omega
  rw [show parseV s = hourV (val s 0 4) (val s 5 2) (val s 8 2) (val s 11 2) by unfold parseV; rw [if_neg hnd, if_pos h]]
  obtain ⟨y, hy⟩ : ∃ y, val s 0 4 = y := ⟨_, rfl⟩
  obtain ⟨m, hm⟩ : ∃ m, val s 5 2 = m := ⟨_, rfl⟩
  obtain ⟨d, hd⟩ : ∃ d, val s 8 2 = d := ⟨_, rfl⟩
  obtain ⟨k, hk⟩ : ∃ k, val s 11 2 = k := ⟨_, rfl⟩
  have c0 := Lib.hid (sub_any s 0 4 4 (by omega) rfl (by omega) p1 y hy)
  have c1 := Lib.hid (sub_any s 5 7 2 (by omega) rfl (by omega) p3 m hm)
  have c2 := Lib.hid (sub_any s 8 10 2 (by omega) rfl (by omega) p5 d hd)
  have c3 := Lib.hid (sub_any s 11 s.size 2 (by omega) (by omega) (by omega) p7 k hk)
  have cn := Lib.hid (form_any s dayF w (by omega) (by decide) false (by simp [hnd]))
  have cf := Lib.hid (fun n => form_any s hourF (w.drewN n) (by omega) (by decide) true (by simp [h]))
  have ch := Lib.hid (fun w hT => hour_any y m d k w hT)
  have hT' := Lib.hid hT
  rw [hy, hm, hd, hk]
  have hfin : ∃ r1 r2, hourV y m d k = (r1, r2) := ⟨_, _, rfl⟩
  obtain ⟨r1, r2, hr⟩ := hfin
  rw [hr] at ch ⊢
  have s13 : s.size ≤ 13 := by omega
  have b4 : (4 : Int) ≤ (s.size : Int) := by omega
  have b7 : (7 : Int) ≤ (s.size : Int) := by omega
  have b10 : (10 : Int) ≤ (s.size : Int) := by omega
  have b11 : (11 : Int) ≤ (s.size : Int) := by omega
  have b13 : ((s.size : Int) == 13) = true := by simp; omega
  have e4 : ∀ w, (Instr.slice 9 (.string s) none (some (.int .i64 4)) none).run Tryz.prog w = .ok (.string (s.extract 0 4)) w := fun w => run_slice_string_h w _ s Tryz.underlying9 .i64 4 (by omega) b4
  have e7 : ∀ w, (Instr.slice 9 (.string s) (some (.int .i64 5)) (some (.int .i64 7)) none).run Tryz.prog w = .ok (.string (s.extract 5 7)) w := fun w => run_slice_string w _ s .i64 .i64 5 7 Tryz.underlying9 (by omega) (by omega) b7
  have e10 : ∀ w, (Instr.slice 9 (.string s) (some (.int .i64 8)) (some (.int .i64 10)) none).run Tryz.prog w = .ok (.string (s.extract 8 10)) w := fun w => run_slice_string w _ s .i64 .i64 8 10 Tryz.underlying9 (by omega) (by omega) b10
  clear h hy hm hd hk p1 p2 p3 p4 p5 p6 p7 hT hr h13 hnd
  unfold dayF at cn
  unfold hourF at cf
  go_enter Tryz.func56, Tryz.ntmps56
  go_wp2_with fail
  refine cn.out.mono ?_; rintro e w1 ⟨rfl, ⟨n1, rfl⟩⟩
  go_wp2_with fail
  refine (cf.out _).mono ?_; rintro e w1 ⟨rfl, ⟨n2, rfl⟩⟩
  go_wp2_with fail
  refine (c3.out _).mono ?_; rintro e w1 ⟨rfl, rfl⟩
  go_wp2_with fail
  have hT2 := Lib.hid ((hT'.out.drewN n1).drewN n2)
  go_region_held3 (fun w' => Tab w') (first | exact hT2.out | exact Tab.keep (hT'.out.drewN _) hB)
    (first
      | (go_at_call 66; (first | (with_reducible refine (c0.out _).mono ?_) | (with_reducible refine (c1.out _).mono ?_) | (with_reducible refine (c2.out _).mono ?_)); rintro e w' ⟨rfl, rfl⟩)
      | (go_at_call 67; refine (ch.out _ (by assumption)).mono ?_; rintro e w' ⟨rfl, hB⟩))
  go_wp2_with fail
  go_ret2
  exact ⟨rfl, below_of_drewN hB⟩

set_option maxHeartbeats 1000000 in
theorem parse_no (s : ByteArray) (w : World) (hs : s.size ≤ 9223372036854775807) (h1 : ¬ hasF s dayF) (h2 : ¬ hasF s hourF) : Calls Tryz.prog 56 #[.string s] w (NumOut (parseV s).1 (parseV s).2 w) := by
  rw [show parseV s = (0, 5) by unfold parseV; rw [if_neg h1, if_neg h2]]
  have cn := Lib.hid (form_any s dayF w hs (by decide) false (by simp [h1]))
  have cf := Lib.hid (fun n => form_any s hourF (w.drewN n) hs (by decide) false (by simp [h2]))
  clear h1 h2 hs
  unfold dayF at cn
  unfold hourF at cf
  go_enter Tryz.func56, Tryz.ntmps56
  go_wp2_with fail
  refine cn.out.mono ?_; rintro e w1 ⟨rfl, ⟨n1, rfl⟩⟩
  go_wp2_with fail
  refine (cf.out _).mono ?_; rintro e w1 ⟨rfl, ⟨n2, rfl⟩⟩
  go_wp2_with fail
  go_ret2
  exact ⟨rfl, below_drewN (Below.refl _ _) _⟩
theorem parse_any (s : ByteArray) (w : World) (hT : Tab w) (hs : s.size ≤ 9223372036854775807) : Calls Tryz.prog 56 #[.string s] w (NumOut (parseV s).1 (parseV s).2 w) := by
  by_cases h1 : hasF s dayF
  · exact parse_day s w hT h1
  · by_cases h2 : hasF s hourF
    · exact parse_hour s w hT h2
    · exact parse_no s w hs h1 h2

end Go.Proofs.YtaengcbjpniclaaGreatDoor.Cal
