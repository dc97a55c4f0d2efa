/- The calendar's plain mathematics: days of months, day numbers, the day of a number, months later, years of a period. -/
import Derived.Test.YtaengcbjpniclaaGreatDoorRows
namespace Go.Proofs.YtaengcbjpniclaaGreatDoor.Cal
set_option linter.unusedVariables false

def lp (y : Int) : Int := if y % 4 = 0 then 1 else 0
def tbl (m : Int) : Int := if m ≤ 1 then 0 else if m = 2 then 31 else if m = 3 then 59 else if m = 4 then 90 else if m = 5 then 120 else if m = 6 then 151 else if m = 7 then 181 else if m = 8 then 212 else
  if m = 9 then 243 else if m = 10 then 273 else if m = 11 then 304 else if m = 12 then 334 else 365
/-- The days of a month. -/
def md (y m : Int) : Int := if m = 2 then 28 + lp y else if m = 4 ∨ m = 6 ∨ m = 9 ∨ m = 11 then 30 else 31
/-- The days of the year before a month. -/
def cum (y m : Int) : Int := tbl m + if 2 < m then lp y else 0
/-- The days before a year. -/
def dby (y : Int) : Int := ((y - 2000) * 1461 + 3) / 4
def num (y m d : Int) : Int := dby y + cum y m + d - 1
def okD (y m d : Int) : Prop := 2000 ≤ y ∧ y ≤ 2099 ∧ 1 ≤ m ∧ m ≤ 12 ∧ 1 ≤ d ∧ d ≤ md y m
instance (y m d : Int) : Decidable (okD y m d) := by unfold okD; infer_instance
def yr (N : Int) : Int := 2000 + N * 4 / 1461
def moR (y r : Int) : Int := if r < cum y 2 then 1 else if r < cum y 3 then 2 else if r < cum y 4 then 3 else if r < cum y 5 then 4 else if r < cum y 6 then 5 else if r < cum y 7 then 6 else if r < cum y 8 then 7 else
  if r < cum y 9 then 8 else if r < cum y 10 then 9 else if r < cum y 11 then 10 else if r < cum y 12 then 11 else 12
def mo (N : Int) : Int := moR (yr N) (N - dby (yr N))
def da (N : Int) : Int := N - dby (yr N) - cum (yr N) (mo N) + 1

theorem lp_01 (y : Int) : 0 ≤ lp y ∧ lp y ≤ 1 := by unfold lp; split <;> omega
theorem months {m : Int} (h1 : 1 ≤ m) (h2 : m ≤ 12) : m = 1 ∨ m = 2 ∨ m = 3 ∨ m = 4 ∨ m = 5 ∨ m = 6 ∨ m = 7 ∨ m = 8 ∨ m = 9 ∨ m = 10 ∨ m = 11 ∨ m = 12 := by omega
theorem md_bd (y m : Int) : 28 ≤ md y m ∧ md y m ≤ 31 := by
  have := lp_01 y
  unfold md; split
  · omega
  · split <;> omega
theorem cum_succ (y m : Int) (h1 : 1 ≤ m) (h2 : m ≤ 12) : cum y (m + 1) = cum y m + md y m := by
  rcases months h1 h2 with h | h | h | h | h | h | h | h | h | h | h | h <;> subst h <;> simp [cum, tbl, md] <;> omega
theorem cum_one (y : Int) : cum y 1 = 0 := by simp [cum, tbl]
theorem cum_end (y : Int) : cum y 13 = 365 + lp y := by simp [cum, tbl]
theorem cum_bd (y m : Int) (h1 : 1 ≤ m) (h2 : m ≤ 12) : 0 ≤ cum y m ∧ cum y m ≤ 335 := by
  have := lp_01 y
  rcases months h1 h2 with h | h | h | h | h | h | h | h | h | h | h | h <;> subst h <;> simp [cum, tbl] <;> omega
theorem cum_le_end (y m : Int) (h1 : 1 ≤ m) (h2 : m ≤ 12) : cum y m + md y m ≤ 365 + lp y := by
  have := lp_01 y
  rcases months h1 h2 with h | h | h | h | h | h | h | h | h | h | h | h <;> subst h <;> simp [cum, tbl, md] <;> omega
theorem dby_succ (y : Int) : dby (y + 1) = dby y + 365 + lp y := by
  obtain ⟨q, r, h, r0, r4⟩ : ∃ q r : Int, y = 2000 + 4 * q + r ∧ 0 ≤ r ∧ r ≤ 3 := ⟨(y - 2000) / 4, (y - 2000) % 4, by omega, by omega, by omega⟩
  have hr : r = 0 ∨ r = 1 ∨ r = 2 ∨ r = 3 := by omega
  unfold dby lp
  rcases hr with e | e | e | e <;> subst e <;> subst h
  · rw [if_pos (by omega)]; omega
  all_goals rw [if_neg (by omega)]; omega
theorem dby_mono (a b : Int) (h : a ≤ b) : dby a ≤ dby b := by unfold dby; omega
theorem dby_lo : dby 2000 = 0 := by unfold dby; omega
theorem dby_hi : dby 2100 = 36525 := by unfold dby; omega
theorem dby_bd (y : Int) (h1 : 2000 ≤ y) (h2 : y ≤ 2099) : 0 ≤ dby y ∧ dby y ≤ 36160 := by unfold dby; omega
theorem yr_bd (N : Int) (h1 : 0 ≤ N) (h2 : N ≤ 36524) : 2000 ≤ yr N ∧ yr N ≤ 2099 := by unfold yr; omega
theorem yr_lo (N : Int) : dby (yr N) ≤ N := by unfold yr dby; omega
theorem yr_hi (N : Int) : N < dby (yr N + 1) := by unfold yr dby; omega
theorem yr_of (y N : Int) (h1 : dby y ≤ N) (h2 : N < dby (y + 1)) : yr N = y := by
  unfold dby at *; unfold yr; omega
theorem cums (y : Int) : cum y 1 = 0 ∧ cum y 2 = 31 ∧ cum y 3 = 59 + lp y ∧ cum y 4 = 90 + lp y ∧ cum y 5 = 120 + lp y ∧ cum y 6 = 151 + lp y ∧ cum y 7 = 181 + lp y ∧ cum y 8 = 212 + lp y ∧ cum y 9 = 243 + lp y ∧ cum y 10 = 273 + lp y ∧ cum y 11 = 304 + lp y ∧ cum y 12 = 334 + lp y := by
  simp [cum, tbl]
theorem moR_of (y m r : Int) (h1 : 1 ≤ m) (h2 : m ≤ 12) (h3 : cum y m ≤ r) (h4 : r < cum y m + md y m) : moR y r = m := by
  rw [← cum_succ y m h1 h2] at h4
  have hl := lp_01 y
  have he := cum_end y
  obtain ⟨c1, c2, c3, c4, c5, c6, c7, c8, c9, c10, c11, c12⟩ := cums y
  unfold moR
  rw [c2, c3, c4, c5, c6, c7, c8, c9, c10, c11, c12]
  generalize lp y = l at *
  rcases months h1 h2 with h | h | h | h | h | h | h | h | h | h | h | h <;> subst h
  · rw [show (1 : Int) + 1 = 2 from rfl, c2] at h4
    rw [c1] at h3
    clear c1 c2 c3 c4 c5 c6 c7 c8 c9 c10 c11 c12 he h1 h2
    rw [if_pos (by omega)]
  · rw [show (2 : Int) + 1 = 3 from rfl, c3] at h4
    rw [c2] at h3
    clear c1 c2 c3 c4 c5 c6 c7 c8 c9 c10 c11 c12 he h1 h2
    iterate 1 rw [if_neg (by omega)]
    rw [if_pos (by omega)]
  · rw [show (3 : Int) + 1 = 4 from rfl, c4] at h4
    rw [c3] at h3
    clear c1 c2 c3 c4 c5 c6 c7 c8 c9 c10 c11 c12 he h1 h2
    iterate 2 rw [if_neg (by omega)]
    rw [if_pos (by omega)]
  · rw [show (4 : Int) + 1 = 5 from rfl, c5] at h4
    rw [c4] at h3
    clear c1 c2 c3 c4 c5 c6 c7 c8 c9 c10 c11 c12 he h1 h2
    iterate 3 rw [if_neg (by omega)]
    rw [if_pos (by omega)]
  · rw [show (5 : Int) + 1 = 6 from rfl, c6] at h4
    rw [c5] at h3
    clear c1 c2 c3 c4 c5 c6 c7 c8 c9 c10 c11 c12 he h1 h2
    iterate 4 rw [if_neg (by omega)]
    rw [if_pos (by omega)]
  · rw [show (6 : Int) + 1 = 7 from rfl, c7] at h4
    rw [c6] at h3
    clear c1 c2 c3 c4 c5 c6 c7 c8 c9 c10 c11 c12 he h1 h2
    iterate 5 rw [if_neg (by omega)]
    rw [if_pos (by omega)]
  · rw [show (7 : Int) + 1 = 8 from rfl, c8] at h4
    rw [c7] at h3
    clear c1 c2 c3 c4 c5 c6 c7 c8 c9 c10 c11 c12 he h1 h2
    iterate 6 rw [if_neg (by omega)]
    rw [if_pos (by omega)]
  · rw [show (8 : Int) + 1 = 9 from rfl, c9] at h4
    rw [c8] at h3
    clear c1 c2 c3 c4 c5 c6 c7 c8 c9 c10 c11 c12 he h1 h2
    iterate 7 rw [if_neg (by omega)]
    rw [if_pos (by omega)]
  · rw [show (9 : Int) + 1 = 10 from rfl, c10] at h4
    rw [c9] at h3
    clear c1 c2 c3 c4 c5 c6 c7 c8 c9 c10 c11 c12 he h1 h2
    iterate 8 rw [if_neg (by omega)]
    rw [if_pos (by omega)]
  · rw [show (10 : Int) + 1 = 11 from rfl, c11] at h4
    rw [c10] at h3
    clear c1 c2 c3 c4 c5 c6 c7 c8 c9 c10 c11 c12 he h1 h2
    iterate 9 rw [if_neg (by omega)]
    rw [if_pos (by omega)]
  · rw [show (11 : Int) + 1 = 12 from rfl, c12] at h4
    rw [c11] at h3
    clear c1 c2 c3 c4 c5 c6 c7 c8 c9 c10 c11 c12 he h1 h2
    iterate 10 rw [if_neg (by omega)]
    rw [if_pos (by omega)]
  · rw [show (12 : Int) + 1 = 13 from rfl, he] at h4
    rw [c12] at h3
    clear c1 c2 c3 c4 c5 c6 c7 c8 c9 c10 c11 c12 he h1 h2
    iterate 11 rw [if_neg (by omega)]
theorem moR_ok (y r : Int) (h0 : 0 ≤ r) (h1 : r < 365 + lp y) : 1 ≤ moR y r ∧ moR y r ≤ 12 ∧ cum y (moR y r) ≤ r ∧ r < cum y (moR y r) + md y (moR y r) := by
  have key : ∃ m, 1 ≤ m ∧ m ≤ 12 ∧ cum y m ≤ r ∧ r < cum y m + md y m := by
    have go : ∀ n : Nat, n ≤ 12 → r < cum y ((n : Int) + 1) → ∃ m, 1 ≤ m ∧ m ≤ 12 ∧ cum y m ≤ r ∧ r < cum y m + md y m := by
      intro n
      induction n with
      | zero => intro _ h; have := cum_one y; simp at h; omega
      | succ n ih =>
        intro hn h
        by_cases hc : r < cum y ((n : Int) + 1)
        · exact ih (by omega) hc
        · have hs := cum_succ y ((n : Int) + 1) (by omega) (by omega)
          exact ⟨(n : Int) + 1, by omega, by omega, by omega, by rw [← hs]; push_cast at h; exact h⟩
    exact go 12 (by omega) (by have := cum_end y; show r < cum y 13; omega)
  obtain ⟨m, a, b, c, d⟩ := key
  rw [moR_of y m r a b c d]
  exact ⟨a, b, c, d⟩
/-- The day of a number is a day, with that number. -/
theorem civ_ok (N : Int) (h1 : 0 ≤ N) (h2 : N ≤ 36524) : okD (yr N) (mo N) (da N) ∧ num (yr N) (mo N) (da N) = N := by
  have b := yr_bd N h1 h2
  have l := yr_lo N
  have u := yr_hi N
  rw [dby_succ] at u
  have m := moR_ok (yr N) (N - dby (yr N)) (by omega) (by omega)
  unfold okD num da mo
  omega
/-- A day is the day of its number. -/
theorem civ_num (y m d : Int) (h : okD y m d) : yr (num y m d) = y ∧ mo (num y m d) = m ∧ da (num y m d) = d := by
  obtain ⟨a, b, c, e, f, g⟩ := h
  have hy : yr (num y m d) = y := by
    have h1 := cum_le_end y m c e
    have h2 := cum_bd y m c e
    refine yr_of _ _ ?_ ?_
    · unfold num; omega
    · rw [dby_succ]; unfold num; omega
  have hm : mo (num y m d) = m := by
    unfold mo; rw [hy]
    exact moR_of _ _ _ c e (by unfold num; omega) (by unfold num; omega)
  refine ⟨hy, hm, ?_⟩
  unfold da; rw [hm, hy]; unfold num; omega
theorem num_bd (y m d : Int) (h : okD y m d) : 0 ≤ num y m d ∧ num y m d ≤ 36524 := by
  obtain ⟨a, b, c, e, f, g⟩ := h
  have h1 := cum_le_end y m c e
  have h2 := cum_bd y m c e
  have h3 := dby_mono 2000 y a
  have h4 := dby_mono (y + 1) 2100 (by omega)
  rw [dby_succ] at h4
  rw [dby_lo] at h3
  rw [dby_hi] at h4
  unfold num; omega
/-- The civil day by its defining facts. -/
theorem civ_eq (N y m d : Int) (h : okD y m d) (hn : num y m d = N) : yr N = y ∧ mo N = m ∧ da N = d := by subst hn; exact civ_num y m d h

/-- The number of the month, from January 2000 on, n months after the hour's. -/
def mix (h n : Int) : Int := (yr (h / 24) - 2000) * 12 + mo (h / 24) - 1 + n
def mday (i d : Int) : Int := min d (md (2000 + i / 12) (i % 12 + 1))
/-- The same hour n months later. -/
def addH (h n : Int) : Int := 24 * num (2000 + mix h n / 12) (mix h n % 12 + 1) (mday (mix h n) (da (h / 24))) + h % 24
def addB (h n : Int) : Bool := decide (0 ≤ h ∧ h ≤ 876599 ∧ 0 ≤ mix h n ∧ mix h n < 1200)
def addV (h n : Int) : Int × Int := if addB h n then (addH h n, 0) else (0, 1)
theorem addB_iff (h n : Int) : addB h n = true ↔ 0 ≤ h ∧ h ≤ 876599 ∧ 0 ≤ mix h n ∧ mix h n < 1200 := by unfold addB; simp
theorem mday_ok (i d : Int) (h0 : 0 ≤ i) (h1 : i < 1200) (hd : 1 ≤ d) : okD (2000 + i / 12) (i % 12 + 1) (mday i d) := by
  have := md_bd (2000 + i / 12) (i % 12 + 1)
  unfold okD mday; omega
theorem day_of (h : Int) (h0 : 0 ≤ h) (h1 : h ≤ 876599) : okD (yr (h / 24)) (mo (h / 24)) (da (h / 24)) ∧ num (yr (h / 24)) (mo (h / 24)) (da (h / 24)) = h / 24 := civ_ok _ (by omega) (by omega)
theorem addH_day (h n : Int) (hb : addB h n = true) : addH h n / 24 = num (2000 + mix h n / 12) (mix h n % 12 + 1) (mday (mix h n) (da (h / 24))) ∧ addH h n % 24 = h % 24 := by
  have := (addB_iff h n).1 hb
  unfold addH; omega
theorem addH_bd (h n : Int) (hb : addB h n = true) : 0 ≤ addH h n ∧ addH h n ≤ 876599 := by
  have a := (addB_iff h n).1 hb
  have d := (day_of h (by omega) (by omega)).1
  have b := num_bd _ _ _ (mday_ok (mix h n) (da (h / 24)) (by omega) (by omega) d.2.2.2.2.1)
  unfold addH; omega
theorem addH_civ (h n : Int) (hb : addB h n = true) : yr (addH h n / 24) = 2000 + mix h n / 12 ∧ mo (addH h n / 24) = mix h n % 12 + 1 ∧ da (addH h n / 24) = mday (mix h n) (da (h / 24)) := by
  have a := (addB_iff h n).1 hb
  have d := (day_of h (by omega) (by omega)).1
  rw [(addH_day h n hb).1]
  exact civ_num _ _ _ (mday_ok (mix h n) (da (h / 24)) (by omega) (by omega) d.2.2.2.2.1)
theorem addH_mix (h n k : Int) (hb : addB h n = true) : mix (addH h n) k = mix h (n + k) := by
  have := addH_civ h n hb
  unfold mix
  rw [this.1, this.2.1]
  unfold mix
  omega
/-- Two steps are one, where the day is in all months. -/
theorem addH_steps (h a b : Int) (ha : addB h a = true) (hd : da (h / 24) ≤ 28) (hb : addB (addH h a) b = true) : addB h (a + b) = true ∧ addH (addH h a) b = addH h (a + b) := by
  have e1 := (addB_iff _ _).1 ha
  have e2 := (addB_iff _ _).1 hb
  have m := addH_mix h a b ha
  have hday : ∀ i, mday i (da (h / 24)) = da (h / 24) := fun i => by have := md_bd (2000 + i / 12) (i % 12 + 1); unfold mday; omega
  have c := addH_civ h a ha
  refine ⟨(addB_iff _ _).2 ⟨e1.1, e1.2.1, by rw [← m]; exact e2.2.2.1, by rw [← m]; exact e2.2.2.2⟩, ?_⟩
  have g : da (addH h a / 24) = da (h / 24) := by rw [c.2.2, hday]
  have t := (addH_day h a ha).2
  show 24 * num (2000 + mix (addH h a) b / 12) (mix (addH h a) b % 12 + 1) (mday (mix (addH h a) b) (da (addH h a / 24))) + addH h a % 24 = _
  rw [m, g, t]
  rfl
/-- Months later is later. -/
theorem num_month (i j d e : Int) (h0 : 0 ≤ i) (hij : i < j) (h1 : j < 1200) (hd : 1 ≤ d) (he : 1 ≤ e) : num (2000 + i / 12) (i % 12 + 1) (mday i d) < num (2000 + j / 12) (j % 12 + 1) (mday j e) := by
  have o1 := mday_ok i d h0 (by omega) hd
  have o2 := mday_ok j e (by omega) h1 he
  unfold okD at o1 o2
  have key : ∀ k : Nat, i + k < 1200 → dby (2000 + i / 12) + cum (2000 + i / 12) (i % 12 + 1) ≤ dby (2000 + (i + k) / 12) + cum (2000 + (i + k) / 12) ((i + k) % 12 + 1) := by
    intro k
    induction k with
    | zero => intro _; simp
    | succ k ih =>
      intro hk
      have := ih (by push_cast at hk; omega)
      have hs := cum_succ (2000 + (i + k) / 12) ((i + k) % 12 + 1) (by omega) (by omega)
      have hm := md_bd (2000 + (i + k) / 12) ((i + k) % 12 + 1)
      by_cases hw : (i + k) % 12 = 11
      · rw [show (i + ((k + 1 : Nat) : Int)) / 12 = (i + k) / 12 + 1 by push_cast; omega, show (i + ((k + 1 : Nat) : Int)) % 12 + 1 = 1 by push_cast; omega]
        rw [hw] at hs this hm
        have e1 := cum_end (2000 + (i + k) / 12)
        have e2 := cum_one (2000 + ((i + k) / 12 + 1))
        have e3 := dby_succ (2000 + (i + k) / 12)
        rw [show 2000 + (i + k) / 12 + 1 = 2000 + ((i + (k : Int)) / 12 + 1) by omega] at e3
        simp at hs e1 this hm
        omega
      · rw [show (i + ((k + 1 : Nat) : Int)) / 12 = (i + k) / 12 by push_cast; omega, show (i + ((k + 1 : Nat) : Int)) % 12 + 1 = (i + k) % 12 + 1 + 1 by push_cast; omega]
        omega
  have step : dby (2000 + i / 12) + cum (2000 + i / 12) (i % 12 + 1) + md (2000 + i / 12) (i % 12 + 1) ≤ dby (2000 + j / 12) + cum (2000 + j / 12) (j % 12 + 1) := by
    have hs := cum_succ (2000 + i / 12) (i % 12 + 1) (by omega) (by omega)
    by_cases hw : i % 12 = 11
    · have e1 := cum_end (2000 + i / 12)
      have e3 := dby_succ (2000 + i / 12)
      have := dby_mono (2000 + i / 12 + 1) (2000 + j / 12) (by omega)
      have cb := cum_bd (2000 + j / 12) (j % 12 + 1) (by omega) (by omega)
      rw [hw] at hs ⊢
      simp at hs e1 ⊢
      omega
    · have cm : ∀ n : Nat, i % 12 + 2 + n ≤ 12 → cum (2000 + i / 12) (i % 12 + 2) ≤ cum (2000 + i / 12) (i % 12 + 2 + n) := by
        intro n
        induction n with
        | zero => intro _; simp
        | succ n ih =>
          intro hn
          have a := ih (by push_cast at hn; omega)
          have b := cum_succ (2000 + i / 12) (i % 12 + 2 + n) (by omega) (by push_cast at hn; omega)
          have c := md_bd (2000 + i / 12) (i % 12 + 2 + n)
          rw [show i % 12 + 2 + ((n + 1 : Nat) : Int) = i % 12 + 2 + n + 1 by push_cast; omega]
          omega
      rw [show i % 12 + 1 + 1 = i % 12 + 2 by omega] at hs
      by_cases hy : j / 12 = i / 12
      · have := cm (j % 12 - i % 12 - 1).toNat (by omega)
        rw [show i % 12 + 2 + ((j % 12 - i % 12 - 1).toNat : Int) = j % 12 + 1 by omega] at this
        rw [hy]; omega
      · have hle := cum_le_end (2000 + i / 12) (i % 12 + 1) (by omega) (by omega)
        have e3 := dby_succ (2000 + i / 12)
        have := dby_mono (2000 + i / 12 + 1) (2000 + j / 12) (by omega)
        have cb := cum_bd (2000 + j / 12) (j % 12 + 1) (by omega) (by omega)
        omega
  unfold num
  omega
theorem addH_lt (h a b : Int) (ha : addB h a = true) (hb : addB h b = true) (hab : a < b) : addH h a < addH h b := by
  have e1 := (addB_iff _ _).1 ha
  have e2 := (addB_iff _ _).1 hb
  have d := (day_of h (by omega) (by omega)).1.2.2.2.2.1
  have := num_month (mix h a) (mix h b) (da (h / 24)) (da (h / 24)) (by omega) (by unfold mix; omega) (by omega) d d
  unfold addH; omega
theorem addH_zero (h : Int) (h0 : 0 ≤ h) (h1 : h ≤ 876599) : addB h 0 = true ∧ addH h 0 = h := by
  have d := day_of h h0 h1
  have o := d.1
  unfold okD at o
  have e1 : mix h 0 / 12 = yr (h / 24) - 2000 := by unfold mix; omega
  have e2 : mix h 0 % 12 + 1 = mo (h / 24) := by unfold mix; omega
  refine ⟨(addB_iff _ _).2 ⟨h0, h1, by unfold mix; omega, by unfold mix; omega⟩, ?_⟩
  unfold addH mday
  rw [e1, e2, show 2000 + (yr (h / 24) - 2000) = yr (h / 24) by omega, show min (da (h / 24)) (md (yr (h / 24)) (mo (h / 24))) = da (h / 24) by omega, d.2]
  omega
end Go.Proofs.YtaengcbjpniclaaGreatDoor.Cal
