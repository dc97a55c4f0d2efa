/- The comparison of package split: cmp.Compare of two uint64, cmp.Or of two ints, and the closure over them. -/
import Derived.Test.YtnjghcncibogeaaSplLeaf
import Derived.Test.YtnjghcncibogeaaShelf
import Derived.Deep.RegionHeld3
import Derived.Sort.Grow
namespace Go.Proofs.Ytnjghcncibogeaa.Spl
open Go.RowKit Go.Lib Go.Proofs.Ytnjghcncibogeaa.Bas
set_option linter.unusedVariables false

theorem isnanU (x : Int) (w : World) : Calls Try.prog 45 #[.int .u64 x] w fun e w' => e = .returned (.bool false) ∧ w = w' := by
  go_enter Try.func45, Try.ntmps45
  go_wp2
  go_ret
  exact ⟨by simp, rfl⟩
/-- What cmp.Compare answers. -/
def cmpI (x y : Int) : Int := if x < y then -1 else if y < x then 1 else 0
theorem cmpI_lib (x y : Int) : Lib.compareInt x y = cmpI x y := by
  unfold Lib.compareInt cmpI
  split <;> (try split) <;> rfl
theorem cmpU (x y : Int) (w : World) : Calls Try.prog 40 #[.int .u64 x, .int .u64 y] w fun e w' => e = .returned (.int .i64 (cmpI x y)) ∧ w = w' := by
  unfold cmpI
  by_cases h1 : x < y
  · rw [if_pos h1]
    go_enter Try.func40, Try.ntmps40
    go_wp2_with fail
    refine (isnanU x _).mono ?_; rintro e w' ⟨rfl, rfl⟩
    go_wp2_with fail
    refine (isnanU y _).mono ?_; rintro e w' ⟨rfl, rfl⟩
    go_wp2_with fail
    go_ret
    exact ⟨rfl, rfl⟩
  · rw [if_neg h1]
    by_cases h2 : y < x
    · rw [if_pos h2]
      go_enter Try.func40, Try.ntmps40
      go_wp2_with fail
      refine (isnanU x _).mono ?_; rintro e w' ⟨rfl, rfl⟩
      go_wp2_with fail
      refine (isnanU y _).mono ?_; rintro e w' ⟨rfl, rfl⟩
      go_wp2_with fail
      go_ret
      exact ⟨rfl, rfl⟩
    · rw [if_neg h2]
      go_enter Try.func40, Try.ntmps40
      go_wp2_with fail
      refine (isnanU x _).mono ?_; rintro e w' ⟨rfl, rfl⟩
      go_wp2_with fail
      refine (isnanU y _).mono ?_; rintro e w' ⟨rfl, rfl⟩
      go_wp2_with fail
      go_ret
      exact ⟨rfl, rfl⟩
theorem cmpS (x y : Int) (w : World) : Calls Try.prog 41 #[.int .i64 x, .int .i64 y] w fun e w' => e = .returned (.int .i64 (cmpI x y)) ∧ w = w' :=
  (Try.cmp_Compare_int x y w).mono fun e w' h => ⟨by rw [h.1, cmpI_lib], h.2.symm⟩

/-- cmp.Or of two. -/
def orI (a c : Int) : Int := if a = 0 then c else a
set_option maxHeartbeats 1000000 in
theorem or_any (b cap : Nat) (a c : Int) (w : World) (h0 : w.cell? ⟨b, 0, none⟩ = some (.int .i64 a)) (h1 : w.cell? ⟨b, 1, none⟩ = some (.int .i64 c)) :
    Calls Try.prog 39 #[.slice (some ⟨b, 0, none⟩) 2 cap] w fun e w' => e = .returned (.int .i64 (orI a c)) ∧ w = w' := by
  unfold orI
  by_cases ha : a = 0
  · subst ha
    rw [if_pos rfl]
    go_enter Try.func39, Try.ntmps39
    go_wp2_with fail
    go_loop [8] (fun i => ∃ k : Nat, k ≤ 2 ∧ i = .int .i64 k ∧ (k = 2 → c = 0)) (fun i => 2 - (RowKit.intOf i).toNat)
    case atStart => exact ⟨0, by omega, rfl, by simp⟩
    case round =>
      obtain ⟨k, hk, rfl, hz⟩ := hrel
      have hk3 : k = 0 ∨ k = 1 ∨ k = 2 := by omega
      rcases hk3 with rfl | rfl | rfl
      · clear hz
        go_wp2_with fail
        go_round
        case rel => exact ⟨1, by omega, by go_num, by simp⟩
        case measure => simp [RowKit.intOf]
      · clear hz
        by_cases hc : c = 0
        · subst hc
          go_wp2_with fail
          go_round
          case rel => exact ⟨2, by omega, by go_num, by simp⟩
          case measure => simp [RowKit.intOf]
        · have e : (c == 0) = false := by simpa using hc
          go_wp2_with fail
          go_ret
          exact ⟨rfl, rfl⟩
      · obtain rfl := hz rfl
        go_wp2_with fail
        go_ret
        exact ⟨rfl, rfl⟩
  · rw [if_neg ha]
    have e : (a == 0) = false := by simpa using ha
    go_enter Try.func39, Try.ntmps39
    go_wp2_with fail
    go_loop [8] (fun i => i = .int .i64 0) (fun i => 0)
    case atStart => rfl
    case round =>
      subst hrel
      go_wp2_with fail
      go_ret
      exact ⟨rfl, rfl⟩

theorem or_new (a c : Int) (w : World) :
    Calls Try.prog 39 #[.slice (some ⟨w.heap.size, 0, none⟩) 2 2] (w.alloc (.cells #[.int .i64 a, .int .i64 c] 3)).drew fun e w' => e = .returned (.int .i64 (orI a c)) ∧ (w.alloc (.cells #[.int .i64 a, .int .i64 c] 3)).drew = w' :=
  or_any _ _ a c _ (by simp) (by simp)

/-- The closure's answer: the greater rest first, then the lower index. -/
def cf (r : Nat → Nat) (x y : Nat) : Int := orI (cmpI (r y) (r x)) (cmpI x y)

set_option maxHeartbeats 2000000 in
theorem closure_any (box rb n c : Nat) (r : Nat → Nat) (x y : Nat) (hx : x < n) (hy : y < n) (hn : n ≤ 64) (w : World)
    (h0 : w.cell? ⟨box, 0, none⟩ = some (.slice (some ⟨rb, 0, none⟩) n c)) (hcx : w.cell? ⟨rb, x, none⟩ = some (.int .u64 (r x))) (hcy : w.cell? ⟨rb, y, none⟩ = some (.int .u64 (r y))) :
    Calls Try.prog 38 #[.int .i64 x, .int .i64 y, .pointer (some ⟨box, 0, none⟩)] w fun e w' => e = .returned (.int .i64 (cf r x y)) ∧ ∃ q os, w' = Go.Sort.grow (w.drewN q) os := by
  unfold cf
  generalize r x = rx at *
  generalize r y = ry at *
  have b1 : (0 : Int) ≤ (x : Int) := by omega
  have b2 : (x : Int) < (n : Int) := by omega
  have b3 : (0 : Int) ≤ (y : Int) := by omega
  have b4 : (y : Int) < (n : Int) := by omega
  have e0 := World.new_ne w _ h0
  have e1 := World.new_ne w _ hcx
  have e2 := World.new_ne w _ hcy
  go_enter Try.func38, Try.ntmps38
  go_wp2_with fail
  go_region_held3 (fun w' => w'.cell? ⟨box, 0, none⟩ = some (.slice (some ⟨rb, 0, none⟩) n c) ∧ w'.cell? ⟨rb, x, none⟩ = some (.int .u64 rx) ∧ w'.cell? ⟨rb, y, none⟩ = some (.int .u64 ry)) (go_keep)
    (first
      | (go_at_call 40; refine (cmpU _ _ _).mono ?_; rintro e w' ⟨rfl, rfl⟩)
      | (go_at_call 41; refine (cmpS _ _ _).mono ?_; rintro e w' ⟨rfl, rfl⟩)
      | (go_at_call 39; refine (or_new _ _ _).mono ?_; rintro e w' ⟨rfl, rfl⟩))
  all_goals go_wp2
  all_goals go_ret
  all_goals exact ⟨rfl, 1, #[_], by rw [← Go.Sort.alloc_eq_grow]; rfl⟩
end Go.Proofs.Ytnjghcncibogeaa.Spl
