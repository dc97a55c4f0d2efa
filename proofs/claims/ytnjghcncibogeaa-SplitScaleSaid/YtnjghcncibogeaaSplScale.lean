/- The walk of SplitScale. -/
import Derived.Test.YtnjghcncibogeaaSplQuota
namespace Go.Proofs.Ytnjghcncibogeaa.Spl
open Go.RowKit Go.Lib Go.Proofs.Ytnjghcncibogeaa.Bas Go.Proofs.Ytnjghcncibogeaa.Dk
set_option linter.unusedVariables false

def scl (c : Nat) (M : List Nat) : List Nat := M.map (· * c)
theorem scl_snoc (c : Nat) (M : List Nat) (x : Nat) : ofN (scl c M) ++ [(x : Int) * (c : Int)] = ofN (scl c (M ++ [x])) := by
  simp [ofN, scl]
theorem cell_new2 (w : World) (o : Obj) (c : Array Value) (t : TypeId) (i : Nat) : ((w.alloc o).alloc (.cells c t)).cell? ⟨w.heap.size + 1, i, none⟩ = c[i]? := by
  have h : (⟨w.heap.size + 1, i, none⟩ : Addr) = ⟨(w.alloc o).heap.size, i, none⟩ := by simp
  rw [h]; simp
theorem far_new1 {wr wA : World} {o2 : Obj} {kd : IntKind} {y : Int} {t : TypeId} {row : Option Nat} (h : ((wr.alloc (.cells #[.int kd y] t)).alloc o2).drew.grownBy wA row) (hr : ∀ g, row = some g → g < wr.heap.size) : wA.cell? ⟨wr.heap.size, 0, none⟩ = some (.int kd y) := by
  rw [h.cell_far ⟨wr.heap.size, 0, none⟩ (by simp; omega) (fun e => by have := hr _ e.symm; simp at this)]
  show ((wr.alloc (.cells #[.int kd y] t)).alloc o2).cell? _ = _
  rw [((Below.refl (wr.alloc (.cells #[.int kd y] t)).heap.size (wr.alloc (.cells #[.int kd y] t))).alloc (Nat.le_refl _) o2).cell (p := ⟨wr.heap.size, 0, none⟩) (by simp)]; simp
theorem far_new2 {wr wA : World} {o1 : Obj} {kd : IntKind} {y : Int} {t : TypeId} {row : Option Nat} (h : ((wr.alloc o1).alloc (.cells #[.int kd y] t)).drew.grownBy wA row) (hr : ∀ g, row = some g → g < wr.heap.size) : wA.cell? ⟨wr.heap.size + 1, 0, none⟩ = some (.int kd y) := by
  rw [h.cell_far ⟨wr.heap.size + 1, 0, none⟩ (by simp) (fun e => by have := hr _ e.symm; simp at this; omega)]
  show ((wr.alloc o1).alloc (.cells #[.int kd y] t)).cell? _ = _
  rw [cell_new2]; simp
theorem grownBy_dr {w w' : World} {row : Option Nat} (h : w.drew.grownBy w' row) : w.grownBy w' row := ⟨h.os, h.tape, h.output, h.size, h.block⟩
/-- The two rows after the two appends, whatever the order of what was laid. -/
theorem two_rows {B : Nat} {w0 wr wA wB : World} {u7 u8 vA vB : Value} {L7 L8 L7' L8' : List Int} (hB : Below B w0 wr) (hsz : B ≤ wr.heap.size) (hne : u7.ownBlock ≠ u8.ownBlock) (hR7 : Row 3 .i64 B wr u7 L7) (hR8 : Row 3 .i64 B wr u8 L8)
    (hA : Row 3 .i64 B wA vA L7') (hgA : wr.grownBy wA u7.ownBlock) (hatA : ∃ g, vA.ownBlock = some g ∧ g < wA.heap.size ∧ (u7.ownBlock = some g ∨ wr.heap.size ≤ g))
    (hBB : Row 3 .i64 B wB vB L8') (hgB : wA.grownBy wB u8.ownBlock) (hatB : ∃ g, vB.ownBlock = some g ∧ g < wB.heap.size ∧ (u8.ownBlock = some g ∨ wA.heap.size ≤ g)) :
    vA.ownBlock ≠ vB.ownBlock ∧ Row 3 .i64 B wB vA L7' ∧ Below B w0 wB := by
  obtain ⟨g, e1, e2, e3⟩ := hatA
  obtain ⟨f, f1, f2, f3⟩ := hatB
  have b7 := hR7.block
  have b8 := hR8.block
  have n1 : vA.ownBlock ≠ u8.ownBlock := by
    intro e
    rcases e3 with e3 | e3
    · exact hne (by rw [e3, ← e1, e])
    · have := (b8 g (by rw [← e, e1])).2
      omega
  refine ⟨?_, hA.grown hgB n1, (hB.grown hgA hsz (fun g hg => (b7 g hg).1)).grown hgB (by have := hgA.size; omega) (fun g hg => (b8 g hg).1)⟩
  intro e
  rcases f3 with f3 | f3
  · exact n1 (by rw [e, f1, f3])
  · rw [e1, f1] at e
    have : g = f := by simpa using e
    omega
theorem one_snoc (m : List Nat) (k : Nat) (h : k < m.length) : one m (k + 1) = one m k ++ [wt m k] := by unfold one; rw [← take_step m k h]; rfl

set_option maxRecDepth 100000 in
set_option maxHeartbeats 4000000 in
theorem splitScale (a : Int) (v : Value) (l : List Int) (kk : Int) (w : World) (ha : (Lit.int .i64 a).wf = true) (h : NumsAt .u16 w v l) (hl : l.length ≤ 9223372036854775807) (hw : ∀ x ∈ l, (Lit.int .u16 x).wf = true) (hkk : (Lit.int .u16 kk).wf = true) :
    Calls Try.prog 8 #[.int .i64 a, v, .int .u16 kk] w (BoolBe true w) := by
  obtain ⟨i0, hi, hz0, hz1, hz2⟩ := info_parts info_int
  obtain ⟨hk0, hk1⟩ := Go.bounds_u16 hkk
  obtain ⟨m, rfl, hm⟩ := ofN_of16 l fun x hx => Go.bounds_u16 (hw x hx)
  have hok := cl_ok a
  have c1 := Lib.hid (rclamp_cl a)
  generalize cl a = b at *
  obtain ⟨c, hc⟩ : ∃ c : Nat, 1 + kk = (c : Int) := ⟨(1 + kk).toNat, by omega⟩
  have hc1 : 1 ≤ c := by omega
  have hc2 : c ≤ 65536 := by omega
  clear hw ha hkk
  obtain ⟨p, cc, rfl, hp⟩ := h
  rw [ofN_length] at *
  obtain ⟨N, hN⟩ : ∃ N, m.length = N := ⟨_, rfl⟩
  rw [hN] at hp hl ⊢
  have hN' := Lib.hid hN
  have hm' := Lib.hid hm
  have hp' := Lib.hid hp
  clear hN hm hp
  have hr : Row 3 .i64 w.heap.size (w.alloc (.cells #[.int .i64 1] 3)) (.slice (some ⟨w.heap.size, 0, none⟩) 1 1) (ofN (one m 0)) := by
    have := World.ownsRow_lit (e := 3) (size := 1) (base := w.heap.size) w #[.int .i64 1] 1 (Nat.le_refl _) (by unfold maxLen; omega) (by simp)
    unfold Row; simpa [ofN, one] using this
  have hr2 : Row 3 .i64 w.heap.size ((w.alloc (.cells #[.int .i64 1] 3)).alloc (.cells #[.int .i64 (c : Int)] 3)) (.slice (some ⟨w.heap.size + 1, 0, none⟩) 1 1) (ofN (scl c (one m 0))) := by
    have := World.ownsRow_lit (e := 3) (size := 1) (base := w.heap.size) (w.alloc (.cells #[.int .i64 1] 3)) #[.int .i64 (c : Int)] 1 (by simp) (by unfold maxLen; omega) (by simp)
    unfold Row; simpa [ofN, one, scl] using this
  have hr' := Lib.hid (hr.al (.cells #[.int .i64 (c : Int)] 3))
  have hr2' := Lib.hid hr2
  clear hr hr2
  go_enter Try.func8, Try.ntmps8
  go_wp2_with fail
  go_loopw [7, 8, 9] (fun x y i wr => ∃ k : Nat, k ≤ N ∧ k ≤ 40 ∧ i = .int .i64 k ∧ Hid (x.ownBlock ≠ y.ownBlock) ∧ Hid (Row 3 .i64 w.heap.size wr x (ofN (one m k))) ∧ Hid (Row 3 .i64 w.heap.size wr y (ofN (scl c (one m k)))) ∧ Hid (Below w.heap.size w wr)) (fun _ _ i _ => N - (RowKit.intOf i).toNat)
  case atStart => exact ⟨0, Nat.zero_le _, by omega, rfl, Lib.hid (by simp [Value.ownBlock]), hr', hr2', Lib.hid (((Below.refl _ _).alloc (Nat.le_refl _) _).alloc (by simp) _)⟩
  case round =>
    obtain ⟨k, hk, hk40, rfl, hne, hR7, hR8, hB⟩ := hrel
    have hmem := one_mem m k 65535 (by omega) hm'.out
    have hlen := one_length m k (by rw [hN'.out]; exact hk)
    by_cases hlt : k < N ∧ k < 40
    · obtain ⟨h1, h2⟩ := hlt
      obtain ⟨b0, off, rfl, hcc⟩ := hp'.out (by omega)
      have hck := hcc k h1
      rw [ofN_getD] at hck
      have hlb : b0 < w.heap.size := World.block_lt_of_cell? _ _ hck
      have hcr : wr.cell? ⟨b0, off + k, none⟩ = some (.int .u16 (wt m k)) := by rw [hB.out.cell (p := ⟨b0, off + k, none⟩) hlb]; exact hck
      have hx := S_wt_lt m k (by rw [hN'.out]; exact h1) _ hm'.out
      have e1 := one_snoc m k (by rw [hN'.out]; exact h1)
      have e1' := Lib.hid e1
      have hbl7 := Lib.hid hR7.out.block
      have hbl8 := Lib.hid hR8.out.block
      have hsz := hB.out.size
      have hlw : b0 < wr.heap.size := by omega
      have hnew := World.new_ne wr _ hcr
      have hqc := mul_bd (wt m k : Int) (c : Int) 65535 65536 (by omega) (by omega) (by omega) (by omega)
      clear hcc hck e1 hmem
      generalize wt m k = q at *
      have hk1 : (k : Int) < (N : Int) := by omega
      obtain ⟨hqc1, hqc2⟩ := hqc
      have wq : IntKind.i64.wrap (q : Int) = (q : Int) := wrap_i _ (by omega) (by omega)
      have wk : IntKind.i64.wrap kk = kk := wrap_i _ (by omega) (by omega)
      have wc : IntKind.i64.wrap (c : Int) = (c : Int) := wrap_i _ (by omega) (by omega)
      have wk1 : IntKind.i64.wrap (1 + kk) = (c : Int) := by rw [hc]; exact wrap_i _ (by omega) (by omega)
      obtain ⟨z, hz⟩ : ∃ z, (q : Int) * (c : Int) = z := ⟨_, rfl⟩
      have wqc : IntKind.i64.wrap ((q : Int) * (c : Int)) = z := by rw [← hz]; exact wrap_i _ (by omega) (by omega)
      have hz' := Lib.hid hz
      clear hz hqc1 hqc2
      have hlen7 : (ofN (one m k)).length ≤ 41 := by rw [ofN_length, hlen]; omega
      have hlen8 : (ofN (scl c (one m k))).length ≤ 41 := by rw [ofN_length]; simp only [scl, List.length_map]; rw [hlen]; omega
      go_wp2_with fail
      go_region_held3 (fun w' => w'.cell? ⟨b0, off + k, none⟩ = some (.int .u16 q))
        (first
          | go_keep
          | (go_split_ands
             rw [hgrowA.cell_far _ (by simp; omega) (fun e => by have h9 := (hbl7.out _ e.symm).1; simp at h9; omega)]; assumption)
          | (go_split_ands
             rw [hgrowB.cell_far _ (by simp; omega) (fun e => by have h9 := (hbl8.out _ e.symm).1; simp at h9; omega)]; assumption))
        (first
          | (refine step_append_at (o := ⟨some 36, _, _, _, _, _⟩) (by rfl) _ _ _ (by rfl) w.heap.size 3 .i64 i0 8 Try.underlying22 hi hz0 hz1 hz2 (by omega) u7 (ofN (one m k)) (by rfl) ?_ _ (q : Int) (by rfl) ?_ ?_ ?_ ?_; (repeat' (first | with_reducible exact hR7.out | with_reducible refine Row.dr ?_ | with_reducible refine Row.al ?_ _ | with_reducible refine Row.grown ?_ hgrowB ?_ | with_reducible exact hne.out | with_reducible exact Ne.symm hne.out)); (first | (focus (simp; done)) | (focus (exact far_new2 hgrowB (fun g e => (hbl8.out g e).2))) | (focus (exact far_new1 hgrowB (fun g e => (hbl8.out g e).2)))); (have hL9 := hlen7; omega); (first | omega | (simp; omega)); intro vA wA hownA hgrowA hatA; have hszA := hgrowA.size; try simp at hszA)
          | (refine step_append_at (o := ⟨some 48, _, _, _, _, _⟩) (by rfl) _ _ _ (by rfl) w.heap.size 3 .i64 i0 8 Try.underlying22 hi hz0 hz1 hz2 (by omega) u8 (ofN (scl c (one m k))) (by rfl) ?_ _ z (by rfl) ?_ ?_ ?_ ?_; (repeat' (first | with_reducible exact hR8.out | with_reducible refine Row.dr ?_ | with_reducible refine Row.al ?_ _ | with_reducible refine Row.grown ?_ hgrowA ?_ | with_reducible exact hne.out | with_reducible exact Ne.symm hne.out)); (first | (focus (simp; done)) | (focus (exact far_new2 hgrowA (fun g e => (hbl7.out g e).2))) | (focus (exact far_new1 hgrowA (fun g e => (hbl7.out g e).2)))); (have hL9 := hlen8; omega); (first | omega | (simp; omega)); intro vB wB hownB hgrowB hatB; have hszB := hgrowB.size; try simp at hszB))
      all_goals
        have hgA : wr.grownBy wA u7.ownBlock := by first | exact grownBy_alloc (grownBy_dr hgrowA) | exact grownBy_alloc (grownBy_alloc (grownBy_dr hgrowA))
        have hgB : wA.grownBy wB u8.ownBlock := by first | exact hgrowB | exact grownBy_alloc hgrowB
        have haA : ∃ g, vA.ownBlock = some g ∧ g < wA.heap.size ∧ (u7.ownBlock = some g ∨ wr.heap.size ≤ g) := by
          obtain ⟨g, x1, x2, x3⟩ := hatA
          refine ⟨g, x1, x2, x3.imp id fun x => ?_⟩
          try simp at x
          omega
        have haB : ∃ g, vB.ownBlock = some g ∧ g < wB.heap.size ∧ (u8.ownBlock = some g ∨ wA.heap.size ≤ g) := by
          obtain ⟨g, x1, x2, x3⟩ := hatB
          refine ⟨g, x1, x2, x3.imp id fun x => ?_⟩
          try simp at x
          omega
        obtain ⟨r1, r2, r3⟩ := two_rows hB.out hsz hne.out hR7.out hR8.out hownA hgA haA hownB hgB haB
        rw [← hz'.out, scl_snoc, ← e1'.out] at hownB
        have e7 : ofN (one m k) ++ [(q : Int)] = ofN (one m (k + 1)) := by rw [e1'.out]; simp [ofN]
        rw [e7] at r2
        have r1' := Lib.hid r1
        have r2' := Lib.hid r2
        have r3' := Lib.hid r3
        have hB' := Lib.hid hownB
        clear hgrowA hgrowB hownA hownB hatA hatB hgA hgB haA haB r1 r2 r3 e7 hszA hszB
        go_wp2_with fail
        go_roundw
        case rel => exact ⟨k + 1, by omega, by omega, by go_num, r1', r2', hB', r3'⟩
        case measure => simp [RowKit.intOf]; omega
    · have hex : ¬ k < N ∨ (k < N ∧ ¬ k < 40) := by omega
      have hL0 : 0 < (one m k).length := by omega
      have hL64 : (one m k).length ≤ 64 := by omega
      have hLW := one_W m k
      have hLx : ∀ x ∈ one m k, x ≤ 17592186044416 := fun x hx => by have := hmem x hx; omega
      have hSx : ∀ x ∈ scl c (one m k), x ≤ 17592186044416 := fun x hx => by
        obtain ⟨y, hy, rfl⟩ := List.mem_map.1 hx
        have h1 := hmem y hy
        have h2 := Nat.mul_le_mul h1 hc2
        omega
      have hSW : 0 < W (scl c (one m k)) := by rw [show scl c (one m k) = (one m k).map (· * c) from rfl, W_map]; exact Nat.mul_pos hLW hc1
      have hSl : (scl c (one m k)).length = (one m k).length := by simp [scl]
      have hSp : parts b.natAbs (scl c (one m k)) = parts b.natAbs (one m k) := parts_map _ _ _ hc1
      unfold okI at hok
      have c4 := split_any b u7 (ofN (one m k)) wr hR7.out.ints (by rw [ofN_length]; omega) (by omega) (by omega)
      rw [splitV_ok b _ hL0 hL64 hok hLx hLW] at c4
      have c5 := fun w3 hI => split_any b u8 (ofN (scl c (one m k))) w3 hI (by rw [ofN_length, hSl]; omega) (by omega) (by omega)
      rw [splitV_ok b _ (by rw [hSl]; omega) (by rw [hSl]; omega) hok hSx hSW, hSp] at c5
      have c4' := Lib.hid c4
      have c5' := Lib.hid c5
      have hsz := hB.out.size
      have hpl : (sg b (parts b.natAbs (one m k))).length = (one m k).length := by rw [sg_length, parts_length]
      obtain ⟨p7, q7, hu7, _⟩ := hR7.out.shape
      rw [ofN_length] at hu7
      generalize one m k = M at *
      generalize sg b (parts b.natAbs M) = P at *
      obtain ⟨n, hn⟩ : ∃ n, M.length = n := ⟨_, rfl⟩
      rw [hn] at hL0 hL64 hlen hpl hu7
      subst hu7
      have hpl' := Lib.hid hpl
      have hc' := Lib.hid hc
      clear c4 c5 hLx hSx hSW hSl hSp hmem hLW hlt hlen hn hpl hc
      rcases hex with h1 | ⟨h1, h2⟩
      all_goals
        go_wp2_with fail
        refine (c1.out _).mono ?_; rintro e w' ⟨rfl, rfl⟩
        go_wp2_with fail
        refine c4'.out.mono ?_; rintro e w3 ⟨p, rfl, hP, hB3⟩
        simp only at hP
        have hU := hR8.out.keep hB3
        have hB4 := Lib.hid (hB.out.trans (hB3.mono hsz))
        have c6 := Lib.hid (c5'.out w3 hU.ints)
        have hsz3 := hB4.out.size
        have hP' := Lib.hid hP
        clear hU hP hB3
        go_wp2_with fail
        refine (c1.out _).mono ?_; rintro e w' ⟨rfl, rfl⟩
        go_wp2_with fail
        refine c6.out.mono ?_; rintro e w4 ⟨q, rfl, hQ, hB5⟩
        simp only at hQ
        have hP2 := hP'.out.keep hB5
        have hB6 := Lib.hid (hB4.out.trans (hB5.mono hsz3))
        have c7 := same_any p q P P w4 hP2.ints hQ.ints (by rw [hpl'.out]; omega) (by rw [hpl'.out]; omega)
        rw [decide_eq_true rfl] at c7
        obtain ⟨p8, q8, hu8, _⟩ := hP2.shape
        rw [hpl'.out] at hu8
        subst hu8
        have c7' := Lib.hid c7
        have hsz4 := hB6.out.size
        clear hP2 hQ hB5 c7
        go_wp2_with fail
        refine c7'.out.mono ?_; rintro e w5 ⟨rfl, nd, rfl⟩
        have haw2 := Lib.hid (awake_any (w4.drewN nd))
        go_wp2_with fail
        refine haw2.out.mono ?_; rintro e w5 ⟨rfl, h5⟩
        have hfin : BoolBe true w (.returned (.bool true)) w5 := ⟨rfl, (below_drewN hB6.out nd).trans (h5.mono hsz4)⟩
        have hfin' := Lib.hid hfin
        clear h5 hfin
        go_wp2_with fail
        go_ret
        exact hfin'.out
end Go.Proofs.Ytnjghcncibogeaa.Spl
