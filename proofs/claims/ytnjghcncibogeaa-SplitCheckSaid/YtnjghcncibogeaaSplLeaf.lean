/- Contracts of the small functions of package split, of its reference and of the argument makers. -/
import Derived.Test.YtnjghcncibogeaaBase
import Derived.Test.YtnjghcncibogeaaSplMath
namespace Go.Proofs.Ytnjghcncibogeaa.Spl
open Go.RowKit Go.Lib Go.Proofs.Ytnjghcncibogeaa.Bas
set_option linter.unusedVariables false

def okI (a : Int) : Prop := -17592186044416 ≤ a ∧ a ≤ 17592186044416
instance (a : Int) : Decidable (okI a) := by unfold okI; infer_instance
/-- May be a weight. -/
def okW (a : Int) : Prop := 0 ≤ a ∧ a ≤ 17592186044416
instance (a : Int) : Decidable (okW a) := by unfold okW; infer_instance
def cl (a : Int) : Int := if 17592186044416 < a then 17592186044416 else if a < -17592186044416 then -17592186044416 else a
theorem cl_ok (a : Int) : okI (cl a) := by unfold cl okI; split <;> (try split) <;> omega

theorem rclamp_cl (a : Int) (w : World) : Calls Try.prog 16 #[.int .i64 a] w fun e w' => e = .returned (.int .i64 (cl a)) ∧ w = w' := by
  unfold cl
  by_cases h1 : 17592186044416 < a
  · go_enter Try.func16, Try.ntmps16
    go_wp2
    go_ret
    exact ⟨by simp, rfl⟩
  · by_cases h2 : a < -17592186044416
    · go_enter Try.func16, Try.ntmps16
      go_wp2
      go_ret
      exact ⟨by simp, rfl⟩
    · go_enter Try.func16, Try.ntmps16
      go_wp2
      go_ret
      exact ⟨by simp, rfl⟩
theorem valid_yes (a : Int) (w : World) (h1 : -17592186044416 ≤ a) (h2 : a ≤ 17592186044416) : Calls Try.prog 22 #[.int .i64 a] w fun e w' => e = .returned (.bool true) ∧ w = w' := by
  go_enter Try.func22, Try.ntmps22
  go_wp2
  go_ret
  exact ⟨rfl, rfl⟩
theorem valid_no (a : Int) (w : World) (h : a < -17592186044416 ∨ 17592186044416 < a) : Calls Try.prog 22 #[.int .i64 a] w fun e w' => e = .returned (.bool false) ∧ w = w' := by
  rcases h with h | h
  · go_enter Try.func22, Try.ntmps22
    go_wp2
    all_goals (go_ret; exact ⟨by first | rfl | (simp; omega), rfl⟩)
  · go_enter Try.func22, Try.ntmps22
    go_wp2
    all_goals (go_ret; exact ⟨by first | rfl | (simp; omega), rfl⟩)
theorem valid_var (a : Int) (b : Bool) (hb : b = decide (okI a)) (w : World) : Calls Try.prog 22 #[.int .i64 a] w fun e w' => e = .returned (.bool b) ∧ w = w' := by
  subst hb
  by_cases h : okI a
  · rw [decide_eq_true h]; exact valid_yes a w h.1 h.2
  · rw [decide_eq_false h]; exact valid_no a w (by unfold okI at h; omega)
theorem rvalid_yes (a : Int) (w : World) (h1 : -17592186044416 ≤ a) (h2 : a ≤ 17592186044416) : Calls Try.prog 27 #[.int .i64 a] w fun e w' => e = .returned (.bool true) ∧ w = w' := by
  go_enter Try.func27, Try.ntmps27
  go_wp2
  go_ret
  exact ⟨rfl, rfl⟩
theorem rvalid_no (a : Int) (w : World) (h : a < -17592186044416 ∨ 17592186044416 < a) : Calls Try.prog 27 #[.int .i64 a] w fun e w' => e = .returned (.bool false) ∧ w = w' := by
  rcases h with h | h
  · go_enter Try.func27, Try.ntmps27
    go_wp2
    all_goals (go_ret; exact ⟨by first | rfl | (simp; omega), rfl⟩)
  · go_enter Try.func27, Try.ntmps27
    go_wp2
    all_goals (go_ret; exact ⟨by first | rfl | (simp; omega), rfl⟩)
theorem rvalid_var (a : Int) (b : Bool) (hb : b = decide (okI a)) (w : World) : Calls Try.prog 27 #[.int .i64 a] w fun e w' => e = .returned (.bool b) ∧ w = w' := by
  subst hb
  by_cases h : okI a
  · rw [decide_eq_true h]; exact rvalid_yes a w h.1 h.2
  · rw [decide_eq_false h]; exact rvalid_no a w (by unfold okI at h; omega)
theorem inr_yes (a : Int) (w : World) (h1 : 0 ≤ a) (h2 : a ≤ 17592186044416) : Calls Try.prog 31 #[.int .i64 a] w fun e w' => e = .returned (.bool true) ∧ w = w' := by
  go_enter Try.func31, Try.ntmps31
  go_wp2
  go_ret
  exact ⟨rfl, rfl⟩
theorem inr_no (a : Int) (w : World) (h : a < 0 ∨ 17592186044416 < a) : Calls Try.prog 31 #[.int .i64 a] w fun e w' => e = .returned (.bool false) ∧ w = w' := by
  rcases h with h | h
  · go_enter Try.func31, Try.ntmps31
    go_wp2
    all_goals (go_ret; exact ⟨by first | rfl | (simp; omega), rfl⟩)
  · go_enter Try.func31, Try.ntmps31
    go_wp2
    all_goals (go_ret; exact ⟨by first | rfl | (simp; omega), rfl⟩)
theorem inr_var (a : Int) (b : Bool) (hb : b = decide (okW a)) (w : World) : Calls Try.prog 31 #[.int .i64 a] w fun e w' => e = .returned (.bool b) ∧ w = w' := by
  subst hb
  by_cases h : okW a
  · rw [decide_eq_true h]; exact inr_yes a w h.1 h.2
  · rw [decide_eq_false h]; exact inr_no a w (by unfold okW at h; omega)

/-- The rest of a list from k on. -/
theorem all_drop_step {p : Int → Prop} {l : List Int} {k : Nat} (hk : k < l.length) (h : ∀ y ∈ l.take k, p y) (h2 : p (l.getD k 0)) : ∀ y ∈ l.take (k + 1), p y := by
  intro y hy
  rw [List.take_succ_eq_append_getElem hk] at hy
  rcases List.mem_append.1 hy with h1 | h1
  · exact h y h1
  · rw [List.mem_singleton.1 h1]; rw [List.getD_eq_getElem?_getD, List.getElem?_eq_getElem hk] at h2; exact h2
theorem getD_mem {l : List Int} {k : Nat} (hk : k < l.length) : l.getD k 0 ∈ l := by
  rw [List.getD_eq_getElem?_getD, List.getElem?_eq_getElem hk]; exact List.getElem_mem _

set_option maxHeartbeats 1000000 in
theorem allin_any (v : Value) (l : List Int) (b : Bool) (hb : b = decide (∀ x ∈ l, okW x)) (w : World) (h : IntsAt w v l) (hl : l.length ≤ 9223372036854775807) :
    Calls Try.prog 23 #[v] w fun e w' => e = .returned (.bool b) ∧ w = w' := by
  obtain ⟨p, c, rfl, hp⟩ := h
  obtain ⟨n, hn⟩ : ∃ n, l.length = n := ⟨_, rfl⟩
  rw [hn] at hp hl ⊢
  have hn' := Lib.hid hn
  have hb' := Lib.hid hb
  have hp' := Lib.hid hp
  clear hn hb hp
  go_enter Try.func23, Try.ntmps23
  go_wp2_with fail
  go_loop [7] (fun i => ∃ k : Nat, k ≤ n ∧ i = .int .i64 k ∧ Hid (∀ y ∈ l.take k, okW y)) (fun i => n - (RowKit.intOf i).toNat)
  case atStart => exact ⟨0, Nat.zero_le _, rfl, Lib.hid (by simp)⟩
  case round =>
    obtain ⟨k, hk, rfl, hall⟩ := hrel
    by_cases hlt : k < n
    · obtain ⟨b0, off, rfl, hc⟩ := hp'.out (by omega)
      have hck := hc k hlt
      have hs := Lib.hid (fun h2 => all_drop_step (p := okW) (l := l) (k := k) (by rw [hn'.out]; exact hlt) hall.out h2)
      have hm := Lib.hid (getD_mem (l := l) (k := k) (by rw [hn'.out]; exact hlt))
      generalize l.getD k 0 = y at *
      clear hc
      by_cases hy : okW y
      · have hy' := Lib.hid hy
        clear hy
        go_wp2_with fail
        refine (inr_var y true (by rw [decide_eq_true hy'.out]) _).mono ?_; rintro e w' ⟨rfl, rfl⟩
        go_wp2_with fail
        go_round
        case rel => exact ⟨k + 1, by omega, by go_num, Lib.hid (hs.out hy'.out)⟩
        case measure => simp [RowKit.intOf]; omega
      · have hy' := Lib.hid hy
        have e : b = false := by rw [hb'.out]; exact decide_eq_false fun h => hy (h y hm.out)
        subst e
        clear hy
        go_wp2_with fail
        refine (inr_var y false (by rw [decide_eq_false hy'.out]) _).mono ?_; rintro e w' ⟨rfl, rfl⟩
        go_wp2_with fail
        go_ret
        exact ⟨rfl, rfl⟩
    · obtain rfl : k = n := by omega
      have e : b = true := by
        have h := hall.out
        rw [← hn'.out, List.take_length] at h
        rw [hb'.out]; exact decide_eq_true h
      subst e
      go_wp2_with fail
      go_ret
      exact ⟨rfl, rfl⟩

/-- The sum of the first k. -/
theorem S_wt_lt (l : List Nat) (k : Nat) (hk : k < l.length) (B : Nat) (h : ∀ x ∈ l, x ≤ B) : wt l k ≤ B := by
  unfold wt; rw [List.getD_eq_getElem?_getD, List.getElem?_eq_getElem hk]; exact h _ (List.getElem_mem _)
theorem S_wt_le (l : List Nat) (k : Nat) (hk : k ≤ l.length) (B : Nat) (h : ∀ x ∈ l, x ≤ B) : S (wt l) k ≤ k * B :=
  S_le_const fun i hi => S_wt_lt l i (by omega) B h
/-- A list of ints that are not negative, as natural numbers. -/
def ofN (l : List Nat) : List Int := l.map fun x : Nat => (x : Int)
theorem ofN_length (l : List Nat) : (ofN l).length = l.length := by simp [ofN]
theorem ofN_getD (l : List Nat) (k : Nat) : (ofN l).getD k 0 = ((wt l k : Nat) : Int) := by
  unfold ofN wt
  rw [List.getD_eq_getElem?_getD, List.getD_eq_getElem?_getD, List.getElem?_map]
  cases l[k]? <;> simp
theorem ofN_of (l : List Int) (h : ∀ x ∈ l, okW x) : ∃ m : List Nat, l = ofN m ∧ ∀ x ∈ m, x ≤ 17592186044416 := by
  induction l with
  | nil => exact ⟨[], rfl, by simp⟩
  | cons x r ih =>
    obtain ⟨m, rfl, hm⟩ := ih fun y hy => h y (by simp [hy])
    have hx := h x (by simp)
    unfold okW at hx
    refine ⟨x.toNat :: m, by simp [ofN]; omega, fun y hy => ?_⟩
    rcases List.mem_cons.1 hy with rfl | hy
    · omega
    · exact hm y hy

set_option maxHeartbeats 1000000 in
theorem sum_any (v : Value) (l : List Nat) (w : World) (h : IntsAt w v (ofN l)) (hl : l.length ≤ 64) (hb : ∀ x ∈ l, x ≤ 70368744177664) (s : Nat) (hs : W l = s) :
    Calls Try.prog 24 #[v] w fun e w' => e = .returned (.int .i64 s) ∧ w = w' := by
  obtain ⟨p, c, rfl, hp⟩ := h
  rw [ofN_length] at hp ⊢
  obtain ⟨n, hn⟩ : ∃ n, l.length = n := ⟨_, rfl⟩
  rw [hn] at hp hl ⊢
  have hn' := Lib.hid hn
  have hp' := Lib.hid hp
  have hb' := Lib.hid hb
  have hs' := Lib.hid hs
  clear hn hp hb hs
  go_enter Try.func24, Try.ntmps24
  go_wp2_with fail
  go_loop [3, 8] (fun s i => ∃ k : Nat, k ≤ n ∧ i = .int .i64 k ∧ ∃ x : Nat, s = .int .i64 x ∧ Hid (x = S (wt l) k)) (fun _ i => n - (RowKit.intOf i).toNat)
  case atStart => exact ⟨0, Nat.zero_le _, rfl, 0, rfl, Lib.hid rfl⟩
  case round =>
    obtain ⟨k, hk, rfl, x, rfl, hx⟩ := hrel
    have bx := S_wt_le l k (by rw [hn'.out]; exact hk) _ hb'.out
    rw [← hx.out] at bx
    have b2 : x ≤ 4503599627370496 := by omega
    clear bx
    by_cases hlt : k < n
    · obtain ⟨b, off, rfl, hc⟩ := hp'.out (by omega)
      have hck := hc k hlt
      rw [ofN_getD] at hck
      have by1 := S_wt_lt l k (by rw [hn'.out]; exact hlt) _ hb'.out
      have hst : x + wt l k = S (wt l) (k + 1) := by rw [hx.out]; rfl
      have hst' := Lib.hid hst
      clear hst hc
      generalize wt l k = y at *
      go_wp2_with fail
      go_round
      case rel => exact ⟨k + 1, by omega, by go_num, x + y, by go_num, hst'⟩
      case measure => simp [RowKit.intOf]; omega
    · obtain rfl : k = n := by omega
      have e : x = s := by rw [hx.out, ← hs'.out, ← hn'.out]; rfl
      subst e
      go_wp2_with fail
      go_ret
      exact ⟨rfl, rfl⟩
end Go.Proofs.Ytnjghcncibogeaa.Spl
