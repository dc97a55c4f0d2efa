/- collect of package exchange. -/
import Derived.Test.YtcdfedkcefhdiaaExcAt
import Derived.Test.YtcdfedkcefhdiaaExcDiff
import Derived.Test.YtcdfedkcefhdiaaMapI
namespace Go.Proofs.Ytcdfedkcefhdiaa.Exc
open Go.RowKit Go.Lib Go.Maps Go.Proofs.Ytcdfedkcefhdiaa.Bas Go.Proofs.Ytcdfedkcefhdiaa.Spl Go.Proofs.Ytcdfedkcefhdiaa.Dk Go.Proofs.Ytcdfedkcefhdiaa.Mp
set_option linter.unusedVariables false

theorem avalid_any (n : Int) (w : World) (b : Bool) (hb : okB n = b) : Calls Try.prog 42 #[.int .i64 n] w fun e w' => e = .returned (.bool b) ∧ w = w' := by
  subst hb
  by_cases h0 : -17592186044416 ≤ n ∧ n ≤ 17592186044416
  · rw [show okB n = true from decide_eq_true h0]; exact Amt.valid_yes n w h0.1 h0.2
  · rw [show okB n = false from decide_eq_false h0]; exact Amt.valid_no n w (by omega)
def accF (f : Int → Int) (l : List Cs) (s : Int) (k : Nat) : Int → Int := fun c => f c + s * sumC l c k
def ColOut (r : Int) (m k : Nat) (f : Int → Int) (w : World) (e : Ending) (w' : World) : Prop := e = .returned (.int .i64 r) ∧ Below m w w' ∧ (r = 0 → MapF w' m k f)
theorem accF_zero (f : Int → Int) (l : List Cs) (s c : Int) : accF f l s 0 c = f c := by show f c + s * 0 = f c; omega
theorem accF_step (f : Int → Int) (l : List Cs) (s : Int) (hs : s = 1 ∨ s = -1) (k : Nat) (c : Int) : accF f l s (k + 1) c = if c = (cs l k).c then accF f l s k (cs l k).c + s * (cs l k).a else accF f l s k c := by
  show f c + s * (sumC l c k + if (cs l k).c = c then (cs l k).a else 0) = _
  by_cases e : c = (cs l k).c
  · rw [if_pos e, if_pos e.symm, ← e]
    show _ = f c + s * sumC l c k + s * (cs l k).a
    rw [Int.mul_add]; omega
  · rw [if_neg e, if_neg (fun g => e g.symm)]
    show f c + s * (sumC l c k + 0) = f c + s * sumC l c k
    rw [Int.add_zero]
theorem accF_bd (f : Int → Int) (l : List Cs) (s : Int) (hs : s = 1 ∨ s = -1) (k M : Nat) (c : Int) (hf : -((M : Int) * 17592186044416) ≤ f c ∧ f c ≤ (M : Int) * 17592186044416) (h : ∀ i, i < k → okI (cs l i).a) (hn : M + k ≤ 65536) :
    -1152921504606846976 ≤ accF f l s k c ∧ accF f l s k c ≤ 1152921504606846976 := by
  have := sumC_bd l c k h
  unfold accF
  rcases hs with rfl | rfl <;> omega
set_option maxHeartbeats 8000000 in
theorem collect_any (s : Int) (hs : s = 1 ∨ s = -1) (v : Value) (l : List Cs) (w0 W : World) (h : CashAt w0 v l) (hB0 : Below w0.heap.size w0 W) (f : Int → Int) (k0 M : Nat) (hM : MapF W w0.heap.size k0 f) (hk0 : k0 ≤ 100000)
    (hf : ∀ c, -((M : Int) * 17592186044416) ≤ f c ∧ f c ≤ (M : Int) * 17592186044416) (hn : M + l.length ≤ 65536) :
    Calls Try.prog 44 #[.map (some w0.heap.size), v, .int .i64 s] W (ColOut (fst0 (ce l) l.length) w0.heap.size (k0 + l.length) (accF f l s l.length) W) := by
  obtain ⟨p, cp, rfl, -, hp⟩ := h
  have hp' := Lib.hid hp
  have hM0 := Lib.hid (hM.congr fun c => (accF_zero f l s c).symm)
  have hB0' := Lib.hid hB0
  have hmlt := hM.lt
  have ccu := Lib.hid isCur_any
  have cva := Lib.hid avalid_any
  obtain ⟨n, hln⟩ : ∃ n, l.length = n := ⟨_, rfl⟩
  rw [hln] at hp' hn ⊢
  have hst := Lib.hid (accF_step f l s hs)
  have hbd := Lib.hid (fun k c (hk : k ≤ n) h => accF_bd f l s hs k M c (hf c) h (by omega))
  clear hp hf hM hB0 hln
  generalize hm : w0.heap.size = m at *
  have hm' := Lib.hid hm
  generalize accF f l s = G at *
  clear hm
  have hn2 : n ≤ 65536 := by omega
  rcases hs with rfl | rfl
  all_goals
    go_enter Try.func44, Try.ntmps44
    go_wp2_with fail
    go_loopw [11] (fun i wr => ∃ k : Nat, k ≤ n ∧ i = .int .i64 k ∧ Hid (fst0 (ce l) k = 0) ∧ Hid (Below m W wr) ∧ Hid (MapF wr m (k0 + k) (G k))) (fun i _ => n - (RowKit.intOf i).toNat)
    case atStart => exact ⟨0, Nat.zero_le _, rfl, Lib.hid rfl, Lib.hid (Below.refl _ _), Lib.hid hM0.out⟩
    case round =>
      obtain ⟨k, hk, rfl, hz, hB, hMk⟩ := hrel
      by_cases hlt : k < n
      · obtain ⟨b, off, rfl, hc⟩ := hp'.out (by omega)
        have hlb : b < m := by have h9 : b < w0.heap.size := World.block_lt_of_cell? _ _ (hc 0 (by omega)).1; have := hm'.out; omega
        have hB1 := hB0'.out.trans hB.out
        have y := hc k hlt
        rw [← hB1.cell (p := ⟨b, off + k * 2, none⟩) hlb, ← hB1.cell (p := ⟨b, off + k * 2 + 1, none⟩) hlb] at y
        obtain ⟨y0, y1⟩ := y
        have hce : ce l k = if (cs l k).c < 0 ∨ 15 < (cs l k).c then 15 else if ¬ okI (cs l k).a then 1 else 0 := rfl
        have hb : ∀ r, ce l k = r → r ≠ 0 → Hid (fst0 (ce l) n = r) := fun r e g => Lib.hid (by rw [fst0_hit (ce l) k n hz.out (by rw [e]; exact g) hlt, e])
        have hg : ce l k = 0 → Hid (fst0 (ce l) (k + 1) = 0) := fun e => Lib.hid (by rw [fst0_succ, if_pos hz.out, e])
        have hokk := Lib.hid (fun i (hi : i < k) => by
          have := (fst0_zero (ce l) k).1 hz.out i hi
          unfold ce at this
          split at this
          · cases this
          · split at this
            · cases this
            · rename_i h; exact Classical.not_not.1 h : ∀ i, i < k → okI (cs l i).a)
        have hbdk := hbd.out k (cs l k).c (by omega) hokk.out
        have hstk := Lib.hid (hst.out k)
        have hmw := hMk.out.lt
        have hsz := hB.out.size
        have hMa := Lib.hid (hMk.out.alloc (.cells #[.int .i64 (cs l k).c, .int .i64 (cs l k).a] 40))
        have hBa := Lib.hid (hB.out.alloc (by omega) (.cells #[.int .i64 (cs l k).c, .int .i64 (cs l k).a] 40))
        clear hc hB1 hokk
        generalize (cs l k).c = C at *
        generalize (cs l k).a = A at *
        generalize hX : G k C = X at *
        have hX' := Lib.hid hX
        have hb' := Lib.hid hb
        have hg' := Lib.hid hg
        clear hX hb hg
        go_wp2_with fail
        refine (ccu.out C _ _ rfl).mono ?_; rintro e w' ⟨rfl, rfl⟩
        by_cases a1 : C < 0 ∨ 15 < C
        · have hfin := hb'.out 15 (by rw [hce, if_pos a1]) (by omega)
          rw [show cuB C = false from decide_eq_false (by omega)]
          clear hb' hg' hce a1
          go_wp2_with fail
          go_ret
          exact ⟨ret_i hfin.out.symm, hBa.out, fun e => by rw [hfin.out] at e; cases e⟩
        · rw [if_neg a1] at hce
          rw [show cuB C = true from decide_eq_true (by omega)]
          have c1 : 0 ≤ C := by omega
          have c2 : C ≤ 15 := by omega
          clear a1
          go_wp2_with fail
          refine (cva.out A _ _ rfl).mono ?_; rintro e w' ⟨rfl, rfl⟩
          by_cases a2 : okI A
          · have hgd := hg'.out (by rw [hce, if_neg (by simpa using a2)])
            rw [show okB A = true from decide_eq_true a2]
            obtain ⟨a3, a4⟩ := a2
            obtain ⟨x1, x2⟩ := hbdk
            clear hb' hg' hce
            have hkey : keyOf Try.prog 3 (.int .i64 C) = some (.int .i64 C) := keyOf_int_mk Try.underlying3 (WalkArith.wf_i64 (by omega))
            obtain ⟨D, hD, hown⟩ := hMa.out
            have hD' := Lib.hid hD
            have hown' := Lib.hid hown
            clear hD hown
            go_wp2_with (first
              | (at_lookup; refine wpList_lookup_own_int _ rfl _ _ 62 rfl 3 3 .i64 lawI Try.underlying62 Try.underlying3 (zeroI _) m (k0 + k) D rfl hown'.out _ _ rfl hkey ?_; intro cv hat hwc; obtain rfl : cv = X := by rw [← hX'.out]; exact hD'.out.val hat)
              | (at_mapUpdate; refine wpList_mapUpdate_own _ rfl _ _ _ 62 rfl 3 3 lawI Try.underlying62 _ m (k0 + k) D rfl hown'.out (by unfold maxLen; omega) _ _ _ rfl rfl hkey _ [] (plainElem_int Try.underlying3 (WalkArith.wf_i64 (by omega))) ?_; intro w1 hown1 hgrow1))
            have B5 := hBa.out.grown hgrow1 (by simp; omega) (fun g hg => by cases hg; exact Nat.le_refl _)
            have M5 : MapF w1 m (k0 + (k + 1)) (G (k + 1)) := ⟨_, ⟨(hD'.out.put _ _).1, fun c => by
              rw [(hD'.out.put _ _).2 c, hstk.out c]
              by_cases e : c = C
              · rw [if_pos e]; simp [e]
              · rw [if_neg e]; simp [e]⟩, hown1⟩
            exact ⟨⟨k + 1, by omega, by go_num, hgd, Lib.hid B5, Lib.hid M5⟩, by simp [RowKit.intOf]; omega⟩
          · have hfin := hb'.out 1 (by rw [hce, if_pos a2]) (by omega)
            rw [show okB A = false from decide_eq_false a2]
            clear hb' hg' hce a2
            go_wp2_with fail
            go_ret
            exact ⟨ret_i hfin.out.symm, hBa.out, fun e => by rw [hfin.out] at e; cases e⟩
      · obtain rfl : k = n := by omega
        clear hlt
        go_wp2_with fail
        go_ret
        exact ⟨ret_i hz.out.symm, hB.out, fun _ => hMk.out⟩
end Go.Proofs.Ytcdfedkcefhdiaa.Exc
