/- The walk of SplitQuota. -/
import Derived.Test.YtnjghcncibogeaaSplCaps
namespace Go.Proofs.Ytnjghcncibogeaa.Spl
open Go.RowKit Go.Lib Go.Proofs.Ytnjghcncibogeaa.Bas Go.Proofs.Ytnjghcncibogeaa.Dk
set_option linter.unusedVariables false

theorem ofN_of16 (l : List Int) (h : ∀ x ∈ l, 0 ≤ x ∧ x ≤ 65535) : ∃ m : List Nat, l = ofN m ∧ ∀ x ∈ m, x ≤ 65535 := by
  induction l with
  | nil => exact ⟨[], rfl, by simp⟩
  | cons x r ih =>
    obtain ⟨m, rfl, hm⟩ := ih fun y hy => h y (by simp [hy])
    have hx := h x (by simp)
    refine ⟨x.toNat :: m, by simp [ofN]; omega, fun y hy => ?_⟩
    rcases List.mem_cons.1 hy with rfl | hy
    · omega
    · exact hm y hy
theorem take_step (m : List Nat) (k : Nat) (h : k < m.length) : m.take k ++ [wt m k] = m.take (k + 1) := by
  rw [List.take_succ_eq_append_getElem h]
  unfold wt
  rw [List.getD_eq_getElem?_getD, List.getElem?_eq_getElem h]; rfl
/-- 1 and the first k. -/
def one (m : List Nat) (k : Nat) : List Nat := 1 :: m.take k
theorem one_step (m : List Nat) (k : Nat) (h : k < m.length) : ofN (one m k) ++ [((wt m k : Nat) : Int)] = ofN (one m (k + 1)) ∧ W (one m (k + 1)) = W (one m k) + wt m k := by
  have e : one m (k + 1) = one m k ++ [wt m k] := by unfold one; rw [← take_step m k h]; rfl
  rw [e]
  exact ⟨by simp [ofN], W_snoc _ _⟩
theorem one_length (m : List Nat) (k : Nat) (h : k ≤ m.length) : (one m k).length = k + 1 := by
  unfold one; rw [List.length_cons, List.length_take]; omega
theorem one_mem (m : List Nat) (k B : Nat) (h0 : 1 ≤ B) (h : ∀ x ∈ m, x ≤ B) : ∀ x ∈ one m k, x ≤ B := by
  intro x hx
  rcases List.mem_cons.1 hx with rfl | hx
  · exact h0
  · exact h x (List.mem_of_mem_take hx)
theorem one_W (m : List Nat) (k : Nat) : 0 < W (one m k) := W_pos _ _ (by decide)
theorem one_zero (m : List Nat) : one m 0 = [1] := rfl

theorem mul_bd (x s : Int) (X S : Nat) (h1 : -(X : Int) ≤ x) (h2 : x ≤ X) (h3 : 0 ≤ s) (h4 : s ≤ S) : -((X * S : Nat) : Int) ≤ x * s ∧ x * s ≤ ((X * S : Nat) : Int) := by
  have h5 : (x * s).natAbs ≤ X * S := by rw [Int.natAbs_mul]; exact Nat.mul_le_mul (by omega) (by omega)
  generalize x * s = z at *
  generalize X * S = Z at *
  omega
theorem sg_bd2 (a : Int) (L : List Nat) (h : 0 < W L) (k : Nat) (hk : k < L.length) (h1 : -2147483648 ≤ a) (h2 : a ≤ 2147483648) : -2147483648 ≤ (sg a (parts a.natAbs L)).getD k 0 ∧ (sg a (parts a.natAbs L)).getD k 0 ≤ 2147483648 := by
  rw [sg_getD]
  have e1 : wt (parts a.natAbs L) k = part a.natAbs L k := wt_map_range _ _ _ hk
  have := part_le' a.natAbs L h k hk
  rw [e1]
  split <;> omega
/-- The quota: a part differs from it by less than 1. -/
theorem quota (a : Int) (M : List Nat) (h : 0 < W M) (i : Nat) (hi : i < M.length) :
    -((W M : Nat) : Int) < (sg a (parts a.natAbs M)).getD i 0 * ((W M : Nat) : Int) - a * ((wt M i : Nat) : Int) ∧ (sg a (parts a.natAbs M)).getD i 0 * ((W M : Nat) : Int) - a * ((wt M i : Nat) : Int) < ((W M : Nat) : Int) := by
  rw [sg_getD]
  have e1 : wt (parts a.natAbs M) i = part a.natAbs M i := wt_map_range _ _ _ hi
  rw [e1]
  obtain ⟨h1, h2⟩ := part_two a.natAbs M h i
  have h1' : ((part a.natAbs M i : Nat) : Int) * ((W M : Nat) : Int) < ((a.natAbs : Nat) : Int) * ((wt M i : Nat) : Int) + ((W M : Nat) : Int) := by exact_mod_cast h1
  have h2' : ((a.natAbs : Nat) : Int) * ((wt M i : Nat) : Int) < ((part a.natAbs M i : Nat) : Int) * ((W M : Nat) : Int) + ((W M : Nat) : Int) := by exact_mod_cast h2
  by_cases ha : a < 0
  · rw [if_pos ha]
    have e2 : ((a.natAbs : Nat) : Int) = -a := by omega
    rw [e2, Int.neg_mul] at h1' h2'
    rw [Int.neg_mul]
    omega
  · rw [if_neg ha]
    have e2 : ((a.natAbs : Nat) : Int) = a := by omega
    rw [e2] at h1' h2'
    omega

set_option maxRecDepth 100000 in
set_option maxHeartbeats 2000000 in
theorem splitQuota (a : Int) (v : Value) (l : List Int) (w : World) (ha : (Lit.int .i32 a).wf = true) (h : NumsAt .u16 w v l) (hl : l.length ≤ 9223372036854775807) (hw : ∀ x ∈ l, (Lit.int .u16 x).wf = true) :
    Calls Try.prog 5 #[.int .i32 a, v] w (BoolBe true w) := by
  obtain ⟨i0, hi, hz0, hz1, hz2⟩ := info_parts info_int
  obtain ⟨ha0, ha1⟩ := Go.bounds_i32 ha
  obtain ⟨m, rfl, hm⟩ := ofN_of16 l fun x hx => Go.bounds_u16 (hw x hx)
  clear hw ha
  obtain ⟨p, c, rfl, hp⟩ := h
  rw [ofN_length] at *
  obtain ⟨N, hN⟩ : ∃ N, m.length = N := ⟨_, rfl⟩
  rw [hN] at hp hl ⊢
  have hN' := Lib.hid hN
  have hm' := Lib.hid hm
  have hp' := Lib.hid hp
  clear hN hm hp
  have hr : Row 3 .i64 w.heap.size (w.alloc (.cells #[.int .i64 1] 3)) (.slice (some ⟨w.heap.size, 0, none⟩) 1 1) (ofN (one m 0)) := by
    have := World.ownsRow_lit (e := 3) (size := 1) (base := w.heap.size) w #[.int .i64 1] 1 (Nat.le_refl _) (by unfold maxLen; omega) (by simp)
    unfold Row; simpa [ofN, one] using this
  have hr' := Lib.hid hr
  clear hr
  go_enter Try.func5, Try.ntmps5
  go_wp2_with fail
  go_loopw [5, 6, 7] (fun x y i wr => ∃ k : Nat, k ≤ N ∧ k ≤ 40 ∧ i = .int .i64 k ∧ (∃ s : Nat, y = .int .i64 s ∧ Hid (W (one m k) = s)) ∧ Hid (Row 3 .i64 w.heap.size wr x (ofN (one m k))) ∧ Hid (Below w.heap.size w wr)) (fun _ _ i _ => N - (RowKit.intOf i).toNat)
  case atStart => exact ⟨0, Nat.zero_le _, by omega, rfl, ⟨1, rfl, Lib.hid rfl⟩, hr', Lib.hid ((Below.refl _ _).alloc (Nat.le_refl _) _)⟩
  case round =>
    obtain ⟨k, hk, hk40, rfl, ⟨s, rfl, hs⟩, hR, hB⟩ := hrel
    have hmem := one_mem m k 65535 (by omega) hm'.out
    have hlen := one_length m k (by rw [hN'.out]; exact hk)
    have hsb := S_wt_le (one m k) (one m k).length (Nat.le_refl _) _ hmem
    have hsb2 : s ≤ 2752512 := by rw [← hs.out]; unfold W; rw [hlen] at hsb ⊢; omega
    clear hsb
    by_cases hlt : k < N ∧ k < 40
    · obtain ⟨h1, h2⟩ := hlt
      obtain ⟨b, off, rfl, hc⟩ := hp'.out (by omega)
      have hck := hc k h1
      rw [ofN_getD] at hck
      have hlb : b < w.heap.size := World.block_lt_of_cell? _ _ hck
      have hcr : wr.cell? ⟨b, off + k, none⟩ = some (.int .u16 (wt m k)) := by rw [hB.out.cell (p := ⟨b, off + k, none⟩) hlb]; exact hck
      have hx := S_wt_lt m k (by rw [hN'.out]; exact h1) _ hm'.out
      obtain ⟨e1, e2⟩ := one_step m k (by rw [hN'.out]; exact h1)
      rw [hs.out] at e2
      have e1' := Lib.hid e1
      have e2' := Lib.hid e2
      have hbl := Lib.hid hR.out.block
      have hsz := hB.out.size
      have hlw : b < wr.heap.size := by omega
      have hnew := World.new_ne wr _ hcr
      clear hc hck e1 e2 hmem
      generalize wt m k = q at *
      have hk1 : (k : Int) < (N : Int) := by omega
      have hq2 : (q : Int) ≤ 65535 := by omega
      have hs2 : (s : Int) ≤ 2752512 := by omega
      have wq : IntKind.i64.wrap (q : Int) = (q : Int) := wrap_i _ (by omega) (by omega)
      have wsq : IntKind.i64.wrap ((s : Int) + (q : Int)) = (s : Int) + (q : Int) := wrap_i _ (by omega) (by omega)
      go_wp2_with fail
      go_region_held3 (fun w' => w'.cell? ⟨b, off + k, none⟩ = some (.int .u16 q))
        (first
          | go_keep
          | (go_split_ands
             rw [hgrow.cell_far _ (by simp; omega) (fun e => by have h9 := (hbl.out _ e.symm).1; simp at h9; omega)]; assumption))
        ((refine step_append_one (by rfl) _ _ _ (by rfl) w.heap.size 3 .i64 i0 8 Try.underlying22 hi hz0 hz1 hz2 (by omega) u5 (ofN (one m k)) (by rfl) ((hR.out.keep ((Below.refl _ _).alloc (Nat.le_refl _) _)).drewN 1) wr.heap.size q (by rfl) (by simp) (by rw [ofN_length, hlen]; omega) (by simp; omega) ?_; intro v' w4 hown hgrow))
      all_goals
        rw [e1'.out] at hown
        have hown' := Lib.hid hown
        have hB2 := Lib.hid ((hB.out.alloc hsz (.cells #[.int .i64 (q : Int)] 3)).drew.grown hgrow (by simp; omega) (fun g hg => (hbl.out g hg).1))
        clear hown hgrow
        go_wp2_with fail
        go_roundw
        case rel => exact ⟨k + 1, by omega, by omega, by go_num, ⟨s + q, by go_num, e2'⟩, hown', hB2⟩
        case measure => simp [RowKit.intOf]; omega
    · have hex : ¬ k < N ∨ (k < N ∧ ¬ k < 40) := by omega
      obtain ⟨p5, q5, hu5, _⟩ := hR.out.shape
      rw [ofN_length] at hu5
      subst hu5
      have hL0 : 0 < (one m k).length := by omega
      have hL64 : (one m k).length ≤ 64 := by omega
      have hLW := one_W m k
      have hLx : ∀ x ∈ one m k, x ≤ 17592186044416 := fun x hx => by have := hmem x hx; omega
      have c4 := split_any a _ (ofN (one m k)) wr hR.out.ints (by rw [ofN_length]; omega) (by omega) (by omega)
      have hok : okI a := by unfold okI; omega
      rw [splitV_ok a _ hL0 hL64 hok hLx hLW] at c4
      have c4' := Lib.hid c4
      have hqu := fun j hj => quota a (one m k) hLW j hj
      have hsb5 := fun j hj => sg_bd2 a (one m k) hLW j hj (by omega) (by omega)
      have hwb := fun j hj => S_wt_lt (one m k) j hj 65535 hmem
      rw [hs.out] at hqu
      have hsz := hB.out.size
      have hpl : (sg a (parts a.natAbs (one m k))).length = (one m k).length := by rw [sg_length, parts_length]
      generalize one m k = M at *
      obtain ⟨n, hn⟩ : ∃ n, M.length = n := ⟨_, rfl⟩
      rw [hn] at hqu hsb5 hwb hpl hL0 hL64 hlen c4' ⊢
      have hqu' := Lib.hid hqu
      have hsb' := Lib.hid hsb5
      have hwb' := Lib.hid hwb
      have hpl' := Lib.hid hpl
      have hn' := Lib.hid hn
      clear c4 hqu hsb5 hwb hpl hn hLx hmem hok hLW hlt hlen
      rcases hex with h1 | ⟨h1, h2⟩
      all_goals
        go_wp2_with fail
        refine c4'.out.mono ?_; rintro e w3 ⟨p, rfl, hP, hB3⟩
        simp only at hP
        have hU := hR.out.keep hB3
        have hB4 := Lib.hid (hB.out.trans (hB3.mono hsz))
        have hU2 := hU.shape
        rw [ofN_length, hn'.out] at hU2
        obtain ⟨p6, q6, hu6, hcu0⟩ := hU2
        simp only [Value.slice.injEq] at hu6
        obtain ⟨rfl, _, rfl⟩ := hu6
        obtain ⟨g1, rfl, _, _, cu⟩ := hcu0 hL0
        obtain ⟨g2, k2, rfl, _, _, cp⟩ := row_form hP (by rw [hpl'.out]; exact hL0)
        rw [hpl'.out] at cp ⊢
        have cu' := Lib.hid cu
        have cp' := Lib.hid cp
        have hB7 : ∀ w5, Below w3.heap.size w3 w5 → BoolBe true w (.returned (.bool true)) w5 := fun w5 h5 => ⟨rfl, hB4.out.trans (h5.mono hB4.out.size)⟩
        have hB7' := Lib.hid hB7
        clear hU hP hB3 cu cp hB7 hcu0
        go_wp2_with fail
        go_loopw [10] (fun i wr => ∃ j : Nat, j ≤ n ∧ i = .int .i64 j ∧ Hid (Dr w3 wr)) (fun i _ => n - (RowKit.intOf i).toNat)
        case atStart => exact ⟨0, Nat.zero_le _, rfl, Lib.hid (Dr.refl _)⟩
        case round =>
          obtain ⟨j, hj, rfl, hD⟩ := hrel
          obtain ⟨nd, rfl⟩ := hD.out
          by_cases hlt : j < n
          · have d1 := cu'.out j hlt
            have d2 := cp'.out j hlt
            rw [ofN_getD] at d1
            obtain ⟨q1, q2⟩ := hqu'.out j hlt
            obtain ⟨x1, x2⟩ := hsb'.out j hlt
            have y2 := hwb'.out j hlt
            generalize (sg a (parts a.natAbs M)).getD j 0 = x at *
            generalize wt M j = y at *
            have b1 := mul_bd x (s : Int) 2147483648 2752512 (by omega) (by omega) (by omega) (by omega)
            have b3 : -((2147483648 * 65535 : Nat) : Int) ≤ a * (y : Int) ∧ a * (y : Int) ≤ ((2147483648 * 65535 : Nat) : Int) := mul_bd a (y : Int) 2147483648 65535 (by omega) (by omega) (by omega) (by omega)
            obtain ⟨X, hX⟩ : ∃ X, x * (s : Int) = X := ⟨_, rfl⟩
            obtain ⟨Y, hY⟩ : ∃ Y, a * (y : Int) = Y := ⟨_, rfl⟩
            rw [hX] at b1 q1 q2
            rw [hY] at b3 q1 q2
            obtain ⟨b1a, b1b⟩ := b1
            obtain ⟨b3a, b3b⟩ := b3
            obtain ⟨D, hDD⟩ : ∃ D, X - Y = D := ⟨_, rfl⟩
            rw [hDD] at q1 q2
            have lt1 : (j : Int) < (n : Int) := by omega
            have w0 : IntKind.i64.wrap a = a := wrap_i _ (by omega) (by omega)
            have w1 : IntKind.i64.wrap (x * (s : Int)) = X := by rw [hX]; exact wrap_i _ (by omega) (by omega)
            have w2 : IntKind.i64.wrap (a * (y : Int)) = Y := by rw [hY]; exact wrap_i _ (by omega) (by omega)
            have w3 : IntKind.i64.wrap (X - Y) = D := by rw [hDD]; exact wrap_i _ (by omega) (by omega)
            have t1 : decide ((s : Int) ≤ D) = false := by simp; omega
            have t2 : decide ((s : Int) ≤ -D) = false := by simp; omega
            clear hX hY hDD b1a b1b b3a b3b x1 x2 y2
            go_wp2_with fail
            go_quiet (fail)
            clear w0 w1 w2 w3
            go_wp2_with fail
            go_roundw
            case rel => exact ⟨j + 1, by omega, by go_num, Lib.hid ⟨_, rfl⟩⟩
            case measure => simp [RowKit.intOf]; omega
          · obtain rfl : j = n := by omega
            have haw2 := Lib.hid (awake_any (w3.drewN nd))
            go_wp2_with fail
            refine haw2.out.mono ?_; rintro e w5 ⟨rfl, h5⟩
            have hfin := Lib.hid (hB7'.out w5 ((below_drewN (Below.refl _ _) nd).trans h5))
            clear h5
            go_wp2_with fail
            go_ret
            exact hfin.out
end Go.Proofs.Ytnjghcncibogeaa.Spl
