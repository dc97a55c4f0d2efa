/- Package exchange: its leaves; cmp's three functions. -/
import Derived.Test.YtcdfedkcefhdiaaExcRef
import Derived.Test.YtcdfedkcefhdiaaMulLeaf
import Derived.Test.YtcdfedkcefhdiaaShelf
import Derived.Deep.RegionHeld3
namespace Go.Proofs.Ytcdfedkcefhdiaa.Exc
open Go.RowKit Go.Lib Go.Proofs.Ytcdfedkcefhdiaa.Bas Go.Proofs.Ytcdfedkcefhdiaa.Spl
set_option linter.unusedVariables false

theorem isHour_any (n : Int) (w : World) (b : Bool) (hb : hrB n = b) : Calls Try.prog 27 #[.int .i64 n] w fun e w' => e = .returned (.bool b) ∧ w = w' := by
  subst hb
  unfold hrB
  by_cases h0 : 0 ≤ n
  · have t0 : decide (0 ≤ n) = true := decide_eq_true h0
    by_cases h1 : n ≤ 876599
    · rw [decide_eq_true ⟨h0, h1⟩]
      have t1 : decide (n ≤ 876599) = true := decide_eq_true h1
      clear h0 h1
      go_enter Try.func27, Try.ntmps27
      go_wp2
      go_ret
      exact ⟨rfl, rfl⟩
    · rw [show decide (0 ≤ n ∧ n ≤ 876599) = false from decide_eq_false (fun h => h1 h.2)]
      have t1 : decide (n ≤ 876599) = false := decide_eq_false h1
      clear h0 h1
      go_enter Try.func27, Try.ntmps27
      go_wp2
      go_ret
      exact ⟨rfl, rfl⟩
  · rw [show decide (0 ≤ n ∧ n ≤ 876599) = false from decide_eq_false (fun h => h0 h.1)]
    have t0 : decide (0 ≤ n) = false := decide_eq_false h0
    clear h0
    go_enter Try.func27, Try.ntmps27
    go_wp2
    go_ret
    exact ⟨rfl, rfl⟩
theorem isCur_any (n : Int) (w : World) (b : Bool) (hb : cuB n = b) : Calls Try.prog 32 #[.int .i64 n] w fun e w' => e = .returned (.bool b) ∧ w = w' := by
  subst hb
  unfold cuB
  by_cases h0 : 0 ≤ n
  · have t0 : decide (0 ≤ n) = true := decide_eq_true h0
    by_cases h1 : n ≤ 15
    · rw [decide_eq_true ⟨h0, h1⟩]
      have t1 : decide (n ≤ 15) = true := decide_eq_true h1
      clear h0 h1
      go_enter Try.func32, Try.ntmps32
      go_wp2
      go_ret
      exact ⟨rfl, rfl⟩
    · rw [show decide (0 ≤ n ∧ n ≤ 15) = false from decide_eq_false (fun h => h1 h.2)]
      have t1 : decide (n ≤ 15) = false := decide_eq_false h1
      clear h0 h1
      go_enter Try.func32, Try.ntmps32
      go_wp2
      go_ret
      exact ⟨rfl, rfl⟩
  · rw [show decide (0 ≤ n ∧ n ≤ 15) = false from decide_eq_false (fun h => h0 h.1)]
    have t0 : decide (0 ≤ n) = false := decide_eq_false h0
    clear h0
    go_enter Try.func32, Try.ntmps32
    go_wp2
    go_ret
    exact ⟨rfl, rfl⟩

/-- What cmp.Compare answers; cmp.Or of two. -/
def cmpI (x y : Int) : Int := if x < y then -1 else if y < x then 1 else 0
def orI (a c : Int) : Int := if a = 0 then c else a
theorem isnanI (x : Int) (w : World) : Calls Try.prog 46 #[.int .i64 x] w fun e w' => e = .returned (.bool false) ∧ w = w' := by
  go_enter Try.func46, Try.ntmps46
  go_wp2
  go_ret
  exact ⟨by simp, rfl⟩
theorem cmpS (x y : Int) (w : World) : Calls Try.prog 41 #[.int .i64 x, .int .i64 y] w fun e w' => e = .returned (.int .i64 (cmpI x y)) ∧ w = w' := by
  unfold cmpI
  by_cases h1 : x < y
  · rw [if_pos h1]
    go_enter Try.func41, Try.ntmps41
    go_wp2_with fail
    refine (isnanI x _).mono ?_; rintro e w' ⟨rfl, rfl⟩
    go_wp2_with fail
    refine (isnanI y _).mono ?_; rintro e w' ⟨rfl, rfl⟩
    go_wp2_with fail
    go_ret
    exact ⟨rfl, rfl⟩
  · rw [if_neg h1]
    by_cases h2 : y < x
    · rw [if_pos h2]
      go_enter Try.func41, Try.ntmps41
      go_wp2_with fail
      refine (isnanI x _).mono ?_; rintro e w' ⟨rfl, rfl⟩
      go_wp2_with fail
      refine (isnanI y _).mono ?_; rintro e w' ⟨rfl, rfl⟩
      go_wp2_with fail
      go_ret
      exact ⟨rfl, rfl⟩
    · rw [if_neg h2]
      go_enter Try.func41, Try.ntmps41
      go_wp2_with fail
      refine (isnanI x _).mono ?_; rintro e w' ⟨rfl, rfl⟩
      go_wp2_with fail
      refine (isnanI y _).mono ?_; rintro e w' ⟨rfl, rfl⟩
      go_wp2_with fail
      go_ret
      exact ⟨rfl, rfl⟩

set_option maxHeartbeats 1000000 in
theorem or_any (b cap : Nat) (a c : Int) (w : World) (h0 : w.cell? ⟨b, 0, none⟩ = some (.int .i64 a)) (h1 : w.cell? ⟨b, 1, none⟩ = some (.int .i64 c)) :
    Calls Try.prog 40 #[.slice (some ⟨b, 0, none⟩) 2 cap] w fun e w' => e = .returned (.int .i64 (orI a c)) ∧ w = w' := by
  unfold orI
  by_cases ha : a = 0
  · subst ha
    rw [if_pos rfl]
    go_enter Try.func40, Try.ntmps40
    go_wp2_with fail
    go_loop [8] (fun i => ∃ k : Nat, k ≤ 2 ∧ i = .int .i64 k ∧ (k = 2 → c = 0)) (fun i => 2 - (RowKit.intOf i).toNat)
    case atStart => exact ⟨0, by omega, rfl, by simp⟩
    case round =>
      obtain ⟨k, hk, rfl, hz⟩ := hrel
      have hk3 : k = 0 ∨ k = 1 ∨ k = 2 := by omega
      rcases hk3 with rfl | rfl | rfl
      · clear hz
        go_wp2_with fail
        go_round
        case rel => exact ⟨1, by omega, by go_num, by simp⟩
        case measure => simp [RowKit.intOf]
      · clear hz
        by_cases hc : c = 0
        · subst hc
          go_wp2_with fail
          go_round
          case rel => exact ⟨2, by omega, by go_num, by simp⟩
          case measure => simp [RowKit.intOf]
        · have e : (c == 0) = false := by simpa using hc
          go_wp2_with fail
          go_ret
          exact ⟨rfl, rfl⟩
      · obtain rfl := hz rfl
        go_wp2_with fail
        go_ret
        exact ⟨rfl, rfl⟩
  · rw [if_neg ha]
    have e : (a == 0) = false := by simpa using ha
    go_enter Try.func40, Try.ntmps40
    go_wp2_with fail
    go_loop [8] (fun i => i = .int .i64 0) (fun i => 0)
    case atStart => rfl
    case round =>
      subst hrel
      go_wp2_with fail
      go_ret
      exact ⟨rfl, rfl⟩

theorem or_new (a c : Int) (w : World) :
    Calls Try.prog 40 #[.slice (some ⟨w.heap.size, 0, none⟩) 2 2] (w.alloc (.cells #[.int .i64 a, .int .i64 c] 3)).drew fun e w' => e = .returned (.int .i64 (orI a c)) ∧ (w.alloc (.cells #[.int .i64 a, .int .i64 c] 3)).drew = w' :=
  or_any _ _ a c _ (by simp) (by simp)

/-- compare: the currency first, then the hour. -/
def cmpR (c f c2 f2 : Int) : Int := orI (cmpI c c2) (cmpI f f2)
set_option maxHeartbeats 2000000 in
theorem compare_any (c f p c2 f2 : Int) (w : World) :
    Calls Try.prog 33 #[.agg #[.int .i64 c, .int .i64 f, .int .i64 p], .int .i64 c2, .int .i64 f2] w fun e w' => e = .returned (.int .i64 (cmpR c f c2 f2)) ∧ Below w.heap.size w w' := by
  unfold cmpR
  go_enter Try.func33, Try.ntmps33
  go_wp2_with fail
  have B0 := Lib.hid (alloc1 w (.cells #[.int .i64 c, .int .i64 f, .int .i64 p] 35))
  have h0 : (w.alloc (.cells #[.int .i64 c, .int .i64 f, .int .i64 p] 35)).cell? ⟨w.heap.size, 0, none⟩ = some (.int .i64 c) := by simp
  have h1 : (w.alloc (.cells #[.int .i64 c, .int .i64 f, .int .i64 p] 35)).cell? ⟨w.heap.size, 1, none⟩ = some (.int .i64 f) := by simp
  generalize w.alloc (.cells #[.int .i64 c, .int .i64 f, .int .i64 p] 35) = W at *
  have e0 := World.new_ne W _ h0
  have e1 := World.new_ne W _ h1
  go_region_held3 (fun w' => w'.cell? ⟨w.heap.size, 0, none⟩ = some (.int .i64 c) ∧ w'.cell? ⟨w.heap.size, 1, none⟩ = some (.int .i64 f)) (go_keep)
    (first
      | (go_at_call 41; refine (cmpS _ _ _).mono ?_; rintro e w' ⟨rfl, rfl⟩)
      | (go_at_call 40; refine (or_new _ _ _).mono ?_; rintro e w' ⟨rfl, rfl⟩))
  all_goals go_wp2
  all_goals go_ret
  all_goals exact ⟨rfl, below_drewN (B0.out.trans ((alloc1 W _).mono B0.out.size)) 1⟩
end Go.Proofs.Ytcdfedkcefhdiaa.Exc
