/- divide of package split. -/
import Derived.Test.YtnjghcncibogeaaSplRest
import Derived.Test.YtnjghcncibogeaaBits
namespace Go.Proofs.Ytnjghcncibogeaa.Spl
open Go.RowKit Go.Lib Go.Proofs.Ytnjghcncibogeaa.Bas
set_option linter.unusedVariables false

theorem info_u64 : (Try.prog.info? 54).map (fun i => (i.zero, i.size, i.bytes)) = some (some (.int .u64 0), 1, 8) := by kernel_rfl

section
variable {t : TypeId} {kd : IntKind} {B g n c : Nat} {w : World} {M : List Nat}
theorem ofN_set (M : List Nat) (j z : Nat) : (ofN M).set j (z : Int) = ofN (M.set j z) := by
  unfold ofN; rw [List.map_set]
theorem row_len (h : Row t kd B w (.slice (some ⟨g, 0, none⟩) n c) (ofN M)) : n = M.length := by
  obtain ⟨p, c', h1, _⟩ := h.shape
  simp only [Value.slice.injEq, ofN_length] at h1
  exact h1.2.1
theorem row_cell (h : Row t kd B w (.slice (some ⟨g, 0, none⟩) n c) (ofN M)) (j : Nat) (hj : j < n) : w.cell? ⟨g, j, none⟩ = some (.int kd (wt M j)) := by
  have hn := row_len h
  obtain ⟨p, c', h1, h2⟩ := h.shape
  simp only [Value.slice.injEq, ofN_length] at h1 h2
  obtain ⟨g', h3, _, _, hcell⟩ := h2 (by omega)
  rw [← h1.1] at h3; cases h3
  rw [hcell j (by omega), ofN_getD]
theorem row_at (h : Row t kd B w (.slice (some ⟨g, 0, none⟩) n c) (ofN M)) (hn0 : 0 < n) : B ≤ g ∧ g < w.heap.size := by
  have hn := row_len h
  obtain ⟨p, c', h1, h2⟩ := h.shape
  simp only [Value.slice.injEq, ofN_length] at h1 h2
  obtain ⟨g', h3, h4, h5, _⟩ := h2 (by omega)
  rw [← h1.1] at h3; cases h3
  exact ⟨h4, h5⟩
theorem row_set (h : Row t kd B w (.slice (some ⟨g, 0, none⟩) n c) (ofN M)) (j z : Nat) : Row t kd B (w.setCell ⟨g, j, none⟩ (.int kd (z : Int))) (.slice (some ⟨g, 0, none⟩) n c) (ofN (M.set j z)) := by
  rw [← ofN_set]; exact h.store j z
end

/-- f up to k, then zeros. -/
def stL (f : Nat → Nat) (n k : Nat) : List Nat := (List.range n).map fun i => if i < k then f i else 0
theorem stL_length (f : Nat → Nat) (n k : Nat) : (stL f n k).length = n := by simp [stL]
theorem stL_zero (f : Nat → Nat) (n : Nat) : ofN (stL f n 0) = List.replicate n 0 := by
  apply List.ext_getElem
  · simp [stL, ofN]
  · intro i h1 h2; simp [stL, ofN]
theorem stL_set (f : Nat → Nat) (n k : Nat) : (stL f n k).set k (f k) = stL f n (k + 1) := by
  apply List.ext_getElem
  · simp [stL]
  · intro i h1 h2
    rw [List.getElem_set]
    by_cases h : k = i
    · subst h; simp [stL]
    · rw [if_neg h]
      have : (i < k + 1) ↔ i < k := by omega
      simp [stL, this]
theorem wt_map_range (f : Nat → Nat) (n i : Nat) (h : i < n) : wt ((List.range n).map f) i = f i := by
  unfold wt
  simp [List.getD_eq_getElem?_getD, h]
theorem stL_full (f : Nat → Nat) (n : Nat) : stL f n n = (List.range n).map f := by
  apply List.ext_getElem
  · simp [stL]
  · intro i h1 h2
    have : i < n := by simpa [stL] using h1
    simp [stL, this]
/-- The parts when t units have been given out. -/
def ptL (a : Nat) (l : List Nat) (t : Nat) : List Nat := (List.range l.length).map (pt a l t)
theorem ptL_length (a : Nat) (l : List Nat) (t : Nat) : (ptL a l t).length = l.length := by simp [ptL]
theorem ptL_zero (a : Nat) (l : List Nat) : ptL a l 0 = (List.range l.length).map (qu a l) := by
  unfold ptL; congr 1
theorem ptL_lef (a : Nat) (l : List Nat) : ptL a l (lef a l) = parts a l := rfl
theorem ptL_set (a : Nat) (l : List Nat) (o : List Nat) (hp : o.Perm (List.range l.length)) (hs : o.Pairwise (fun x y => bet (re a l) x y = true)) (k : Nat) (hk : k < l.length) :
    wt o k < l.length ∧ (ptL a l k).set (wt o k) (wt (ptL a l k) (wt o k) + 1) = ptL a l (k + 1) := by
  have hl : o.length = l.length := by rw [hp.length_eq]; simp
  have e1 : wt o k = o[k]'(by omega) := by
    unfold wt; rw [List.getD_eq_getElem?_getD, List.getElem?_eq_getElem (by omega)]; rfl
  have hlt : wt o k < l.length := by
    rw [e1]
    have := hp.subset (List.getElem_mem (l := o) (n := k) (by omega))
    simpa using this
  have hrk : rk (re a l) l.length (wt o k) = k := by rw [e1]; exact rk_sorted _ _ o hp hs k (by omega)
  refine ⟨hlt, ?_⟩
  generalize wt o k = x at *
  apply List.ext_getElem
  · simp [ptL]
  · intro i h1 h2
    have hi : i < l.length := by simpa [ptL] using h2
    rw [List.getElem_set]
    by_cases h : x = i
    · subst h
      rw [if_pos rfl]
      have e2 : wt (ptL a l k) x = pt a l k x := wt_map_range _ _ _ hlt
      have e3 : (ptL a l (k + 1))[x] = pt a l (k + 1) x := by simp [ptL]
      rw [e2, e3]
      simp [pt, hrk]
    · rw [if_neg h]
      have h3 : rk (re a l) l.length i ≠ k := fun e => h (rk_inj hlt hi (by rw [hrk, e]))
      have : (rk (re a l) l.length i < k + 1) ↔ rk (re a l) l.length i < k := by omega
      simp [ptL, pt, this]
theorem W_stL (a : Nat) (l : List Nat) : W ((List.range l.length).map (qu a l)) = S (qu a l) l.length := by
  unfold W
  rw [List.length_map, List.length_range]
  exact S_congr fun i hi => wt_map_range _ _ _ hi

theorem two_words (p s : Nat) : p / 18446744073709551616 * 18446744073709551616 + p % 18446744073709551616 = p := Nat.div_add_mod' _ _
theorem hi_lt (a b s : Nat) (ha : a ≤ 17592186044416) (hb : b ≤ s) (hs : 0 < s) : a * b / 18446744073709551616 < s := by
  have h1 : a * b ≤ 17592186044416 * s := Nat.mul_le_mul ha hb
  omega

def DivOut (L : List Nat) (w : World) (e : Ending) (w' : World) : Prop :=
  ∃ g, e = .returned (.slice (some ⟨g, 0, none⟩) L.length L.length) ∧ Row 3 .i64 w.heap.size w' (.slice (some ⟨g, 0, none⟩) L.length L.length) (ofN L) ∧ Below w.heap.size w w'

set_option maxHeartbeats 2000000 in
theorem divide_any (a : Nat) (v : Value) (l : List Nat) (w : World) (h : IntsAt w v (ofN l)) (hn : 0 < l.length) (h64 : l.length ≤ 64) (hb : ∀ x ∈ l, x ≤ 17592186044416) (ha : a ≤ 17592186044416) (s : Nat) (hs : W l = s) (hs0 : 0 < s) :
    Calls Try.prog 25 #[.int .i64 a, v, .int .i64 s] w (DivOut (parts a l) w) := by
  obtain ⟨i0, hi, hz0, hz1, hz2⟩ := info_parts info_int
  obtain ⟨i1, ji, jz0, jz1, jz2⟩ := info_parts info_u64
  have hI := Lib.hid h
  obtain ⟨p, c, rfl, hp⟩ := h
  rw [ofN_length] at hp ⊢
  obtain ⟨n, hn'⟩ : ∃ n, l.length = n := ⟨_, rfl⟩
  have hsb : s ≤ 1125899906842624 := by
    rw [← hs]; have := S_wt_le l l.length (Nat.le_refl _) _ hb; unfold W; omega
  rw [hn'] at hp h64 hn ⊢
  have hnn := Lib.hid hn'
  have hp' := Lib.hid hp
  have hb' := Lib.hid hb
  have hs' := Lib.hid hs
  clear hn' hp hb hs
  go_enter Try.func25, Try.ntmps25
  go_upto_region 2 with (at_make; refine wpList_make_full _ rfl _ _ 22 rfl w.heap.size 3 i0 (.int .i64 0) 1 Try.underlying22 hi hz0 hz1 .i64 .i64 (n : Int) (n : Int) n rfl rfl rfl rfl (by rw [hz2]; omega) (by unfold maxLen; omega) (Nat.le_refl _) ?_; intro w1 hown hgrow)
  have hP : Row 3 .i64 w.heap.size w1 (.slice (some ⟨w.heap.size, 0, none⟩) n n) (ofN (stL (qu a l) n 0)) := by
    rw [stL_zero]; exact row_zeros hown
  have hb1 : Below w.heap.size w w1 := below_grownBy (Below.refl _ _) hgrow (Nat.le_refl _)
  have hg1 := (row_at hP hn).2
  have hP' := Lib.hid hP
  have hb1' := Lib.hid hb1
  clear hown hgrow hP hb1
  have hle : w.heap.size ≤ w1.heap.size := by omega
  go_upto_block 0 with (at_make; (refine wpList_make_full _ rfl _ _ 53 rfl w.heap.size 54 i1 (.int .u64 0) 1 Try.underlying53 ji jz0 jz1 .i64 .i64 (n : Int) (n : Int) n rfl rfl rfl rfl (by rw [jz2]; omega) (by unfold maxLen; omega) hle ?_); intro w2 hown hgrow)
  have hR : Row 54 .u64 w.heap.size w2 (.slice (some ⟨w1.heap.size, 0, none⟩) n n) (ofN (stL (re a l) n 0)) := by
    rw [stL_zero]; exact row_zeros hown
  have hb2 : Below w1.heap.size w1 w2 := below_grownBy (Below.refl _ _) hgrow (Nat.le_refl _)
  have hP2 := hP'.out.below hb2 fun g hg => by cases hg; exact hg1
  have hB2 := hb1'.out.trans (hb2.mono hle)
  have hg2 := (row_at hR hn).2
  have hR' := Lib.hid hR
  have hP2' := Lib.hid hP2
  have hB2' := Lib.hid hB2
  clear hown hgrow hR hb2 hP' hP2 hB2 hb1'
  generalize w1.heap.size = g2 at *
  go_cut [7, 8] (fun x y wx => x = .slice (some ⟨w.heap.size, 0, none⟩) n n ∧ y = .slice (some ⟨g2, 0, none⟩) n n ∧ Hid (Row 3 .i64 w.heap.size wx (.slice (some ⟨w.heap.size, 0, none⟩) n n) (ofN (stL (qu a l) n n))) ∧ Hid (Row 54 .u64 w.heap.size wx (.slice (some ⟨g2, 0, none⟩) n n) (ofN (stL (re a l) n n))) ∧ Hid (Below w.heap.size w wx))
  case first =>
    go_wp2_with fail
    go_loopw [26] (fun i wr => ∃ k : Nat, k ≤ n ∧ i = .int .i64 k ∧ Hid (Row 3 .i64 w.heap.size wr (.slice (some ⟨w.heap.size, 0, none⟩) n n) (ofN (stL (qu a l) n k))) ∧ Hid (Row 54 .u64 w.heap.size wr (.slice (some ⟨g2, 0, none⟩) n n) (ofN (stL (re a l) n k))) ∧ Hid (Below w.heap.size w wr)) (fun i _ => n - (RowKit.intOf i).toNat)
    case atStart => exact ⟨0, Nat.zero_le _, rfl, hP2', hR', hB2'⟩
    case round =>
      obtain ⟨k, hk, rfl, hP, hR, hB⟩ := hrel
      by_cases hlt : k < n
      · obtain ⟨b, off, rfl, hc⟩ := hp'.out (by omega)
        have hlb : b < w.heap.size := World.block_lt_of_cell? _ _ (hc k hlt)
        have hck : wr.cell? ⟨b, off + k, none⟩ = some (.int .i64 (wt l k)) := by
          rw [hB.out.cell (p := ⟨b, off + k, none⟩) hlb, hc k hlt, ofN_getD]
        have bx := S_wt_lt l k (by rw [hnn.out]; exact hlt) _ hb'.out
        have bs : wt l k ≤ s := by rw [← hs'.out]; exact S_one_le (by rw [hnn.out]; exact hlt)
        have hq : a * wt l k / s = qu a l k := by rw [← hs'.out]; rfl
        have hr : a * wt l k % s = re a l k := by rw [← hs'.out]; rfl
        have bq : qu a l k ≤ a := qu_le a l k (by rw [hnn.out]; exact hlt)
        have br : re a l k < s := by rw [← hs'.out]; exact re_lt a l k (by rw [hs'.out]; exact hs0)
        have c1 := row_cell hP.out k hlt
        have f1 := hP.out.frozen k
        have c2 := row_cell hR.out k hlt
        have f2 := hR.out.frozen k
        have s1 := Lib.hid (row_set hP.out k (qu a l k))
        have hpr := two_words (a * wt l k) s
        have hhi := hi_lt a (wt l k) s ha bs hs0
        have hlo : a * wt l k % 18446744073709551616 < 18446744073709551616 := Nat.mod_lt _ (by decide)
        have hm := Lib.hid (mul64_any a (wt l k) (by omega) (by omega))
        have hd := div64_any (a * wt l k / 18446744073709551616) (a * wt l k % 18446744073709551616) s hhi hlo hsb
        rw [hpr, hq, hr] at hd
        have hd' := Lib.hid hd
        have s2 : ∀ w', Row 54 .u64 w.heap.size w' (.slice (some ⟨g2, 0, none⟩) n n) (ofN (stL (re a l) n k)) → Row 54 .u64 w.heap.size (w'.setCell ⟨g2, k, none⟩ (.int .u64 (re a l k))) (.slice (some ⟨g2, 0, none⟩) n n) (ofN (stL (re a l) n (k + 1))) := fun w' h => by
          rw [← stL_set]; exact row_set h k (re a l k)
        have s2 := Lib.hid s2
        have hne : w.heap.size ≠ g2 := by omega
        have hfin : Row 3 .i64 w.heap.size (((wr.drewN 0).setCell ⟨w.heap.size, k, none⟩ (.int .i64 (qu a l k))).setCell ⟨g2, k, none⟩ (.int .u64 (re a l k))) (.slice (some ⟨w.heap.size, 0, none⟩) n n) (ofN (stL (qu a l) n (k + 1))) := by
          rw [← stL_set]; exact s1.out.other (by simp [Value.ownBlock]; omega) _
        clear hpr hq hr hc hd hhi hlo hlb
        have bq2 : qu a l k ≤ 17592186044416 := by omega
        have br2 : re a l k ≤ 1125899906842624 := by omega
        have hP3 := Lib.hid hP
        generalize wt l k = x at *
        generalize qu a l k = q at *
        generalize re a l k = r at *
        go_wp2_with fail
        refine (hm.out _).mono ?_; rintro e w' ⟨rfl, rfl⟩
        go_wp2_with fail
        refine (hd'.out _).mono ?_; rintro e w' ⟨rfl, nd, rfl⟩
        go_wp2_with fail
        go_roundw
        case rel => exact ⟨k + 1, by omega, by go_num, Lib.hid hfin, Lib.hid (s2.out _ ((hR.out.drewN nd).other (by simp [Value.ownBlock]; omega) _)), Lib.hid (((below_drewN hB.out nd).setCell (Nat.le_refl _) _).setCell (by simp; omega) _)⟩
        case measure => simp [RowKit.intOf]; omega
      · obtain rfl : k = n := by omega
        go_wp2_with fail
        go_meet
        case rel => exact ⟨rfl, rfl, hP, hR, hB⟩
  case rest =>
    obtain ⟨rfl, rfl, hP, hR, hB⟩ := hcut
    have hPI := hP.out.ints
    have hq0 : stL (qu a l) n n = (List.range l.length).map (qu a l) := by rw [stL_full, hnn.out]
    rw [hq0] at hPI
    have hqb : ∀ x ∈ (List.range l.length).map (qu a l), x ≤ 70368744177664 := by
      intro x hx
      obtain ⟨i, hi, rfl⟩ := List.mem_map.1 hx
      have := qu_le a l i (by simpa using hi)
      omega
    have hsq := sum_q a l (by rw [hs'.out]; exact hs0)
    have htl := lef_le a l (by rw [hs'.out]; exact hs0)
    obtain ⟨sq, hsq1⟩ : ∃ sq, S (qu a l) l.length = sq := ⟨_, rfl⟩
    obtain ⟨t, ht⟩ : ∃ t, lef a l = t := ⟨_, rfl⟩
    have hsub : (a : Int) - (sq : Int) = (t : Int) := by rw [← ht]; unfold lef; rw [hsq1] at hsq ⊢; omega
    have hc1 := Lib.hid (sum_any _ _ wc hPI (by simp; rw [hnn.out]; exact h64) hqb sq (by rw [W_stL, hsq1]))
    have hrs : ∀ j, j < n → wc.cell? ⟨g2, j, none⟩ = some (.int .u64 (re a l j)) := fun j hj => by
      rw [row_cell hR.out j hj, stL_full, wt_map_range _ _ _ hj]
    have hc2 := Lib.hid (byRest_any g2 n n (re a l) wc hn h64 hrs)
    have hP0 : Row 3 .i64 w.heap.size wc (.slice (some ⟨w.heap.size, 0, none⟩) n n) (ofN (ptL a l 0)) := by
      rw [ptL_zero, ← hq0]; exact hP.out
    have hg3 := (row_at hP0 hn).2
    rw [hnn.out, ht] at htl
    rw [hsq1] at hsq
    have hP0' := Lib.hid hP0
    have ht' := Lib.hid ht
    have hsub1 : sq + t = a := by omega
    clear hPI hq0 hqb hrs hP0 ht hsq1
    go_wp2_with fail
    refine hc1.out.mono ?_; rintro e w' ⟨rfl, rfl⟩
    go_wp2_with fail
    refine hc2.out.mono ?_; rintro e w' ⟨g, rfl, o, ho1, ho2, ho3, ho4⟩
    have ho1' := Lib.hid ho1
    have ho2' := Lib.hid ho2
    have ho3' := Lib.hid ho3
    have ho4' := Lib.hid ho4
    have hgg := (row_at ho3 hn).1
    have hP4 := Lib.hid (hP0'.out.keep ho4)
    have hB4 := Lib.hid (hB.out.trans (ho4.mono (by omega)))
    have hpart : ptL a l t = parts a l := by rw [← ht'.out]; rfl
    have hpart' := Lib.hid hpart
    have hlo := Lib.hid (row_len ho3)
    clear ho1 ho2 ho3 ho4 hpart
    go_wp2_with fail
    go_loopw [66] (fun i wr => ∃ k : Nat, k ≤ t ∧ i = .int .i64 k ∧ Hid (Row 3 .i64 w.heap.size wr (.slice (some ⟨w.heap.size, 0, none⟩) n n) (ofN (ptL a l k))) ∧ Hid (Row 3 .i64 wc.heap.size wr (.slice (some ⟨g, 0, none⟩) n n) (ofN o)) ∧ Hid (Below w.heap.size w wr)) (fun i _ => t - (RowKit.intOf i).toNat)
    case atStart => exact ⟨0, Nat.zero_le _, rfl, hP4, ho3', hB4⟩
    case round =>
      obtain ⟨k, hk, rfl, hP5, hO, hB5⟩ := hrel
      by_cases hlt : k < t
      · have hck := row_cell hO.out k (by omega)
        obtain ⟨hx1, hx2⟩ := ptL_set a l o (by rw [hnn.out] at *; exact ho1'.out) ho2'.out k (by rw [hnn.out]; omega)
        rw [hnn.out] at hx1
        have c1 := row_cell hP5.out (wt o k) hx1
        have f1 := hP5.out.frozen (wt o k)
        have s1 := row_set hP5.out (wt o k) (wt (ptL a l k) (wt o k) + 1)
        rw [hx2] at s1
        have s1' := Lib.hid s1
        have hbd : wt (ptL a l k) (wt o k) ≤ 17592186044417 := by
          have e1 : wt (ptL a l k) (wt o k) = pt a l k (wt o k) := wt_map_range _ _ _ (by rw [hnn.out]; exact hx1)
          have e2 := qu_le a l (wt o k) (by rw [hnn.out]; exact hx1)
          rw [e1]; unfold pt; split <;> omega
        clear hx2 s1
        generalize wt (ptL a l k) (wt o k) = z at *
        generalize wt o k = x at *
        have hxn : (x : Int) < (n : Int) := by omega
        go_wp2_with fail
        go_roundw
        case rel => exact ⟨k + 1, by omega, by go_num, Lib.hid (by have h := s1'.out; simp at h; exact h), Lib.hid (hO.out.other (by simp [Value.ownBlock]; omega) _), Lib.hid (hB5.out.setCell (Nat.le_refl _) _)⟩
        case measure => simp [RowKit.intOf]; omega
      · obtain rfl : k = t := by omega
        rw [hpart'.out] at hP5
        have hlen : (parts a l).length = n := by simp [parts, hnn.out]
        have hfin : DivOut (parts a l) w (.returned (.slice (some ⟨w.heap.size, 0, none⟩) n n)) wr := by
          refine ⟨w.heap.size, by rw [hlen], ?_, hB5.out⟩
          rw [hlen]; exact hP5.out
        have hfin' := Lib.hid hfin
        clear hfin hlen
        go_wp2_with fail
        go_ret
        exact hfin'.out
end Go.Proofs.Ytnjghcncibogeaa.Spl
