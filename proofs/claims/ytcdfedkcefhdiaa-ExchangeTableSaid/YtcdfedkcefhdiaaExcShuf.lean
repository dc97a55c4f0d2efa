/- The walk of ExchangeShuffled. -/
import Derived.Test.YtcdfedkcefhdiaaExcBal
import Derived.Test.YtcdfedkcefhdiaaDeckOrder
namespace Go.Proofs.Ytcdfedkcefhdiaa.Exc
open Go.RowKit Go.Lib Go.Proofs.Ytcdfedkcefhdiaa.Bas Go.Proofs.Ytcdfedkcefhdiaa.Spl Go.Proofs.Ytcdfedkcefhdiaa.Dk
set_option linter.unusedVariables false

theorem totC_bd (L : List Cs) (c : Int) (h : ∀ p ∈ L, okC p) : -(1073741824 * (L.length : Int)) ≤ totC L c ∧ totC L c ≤ 1073741824 * (L.length : Int) := by
  induction L with
  | nil => simp [totC_nil]
  | cons x r ih =>
    have h1 := ih fun p hp => h p (by simp [hp])
    have h2 := h x (by simp)
    unfold okC at h2
    rw [totC_cons, List.length_cons]
    push_cast
    split <;> omega
theorem norm_made (L : List Cs) (h : ∀ p ∈ L, okC p) (hl : L.length ≤ 100) : normV L = (balK L 16, 0) := by
  have hce : fst0 (ce L) L.length = 0 := (fst0_zero _ _).2 fun i hi => by
    have := h L[i] (List.getElem_mem _)
    unfold okC at this
    unfold ce
    rw [cs_at L i hi, if_neg (by omega), if_neg]
    unfold okI; omega
  have hok : okK L 16 := fun c _ => by
    have := totC_bd L c h
    unfold okI; omega
  unfold normV
  rw [if_neg (by omega), if_neg (by simp [hce]), if_pos hok]
theorem norm_perm (L M : List Cs) (hp : M.Perm L) (h : ∀ p ∈ L, okC p) (hl : L.length ≤ 100) : normV M = (balK L 16, 0) := by
  rw [norm_made M (fun p hpm => h p (hp.mem_iff.1 hpm)) (by rw [hp.length_eq]; exact hl), balK_congr M L 16 fun c _ => totC_perm hp c]
theorem map_cs (L : List Cs) : (List.range L.length).map (cs L) = L := by
  apply List.ext_getElem
  · simp
  · intro i h1 h2
    simp only [List.getElem_map, List.getElem_range]
    exact cs_at L i h2
theorem perm_cs (L : List Cs) (o : List Nat) (h : o.Perm (List.range L.length)) : (o.map (cs L)).Perm L := by
  have := h.map (cs L)
  rwa [map_cs] at this
theorem take_cs (L : List Cs) (o : List Nat) (k : Nat) (hk : k < o.length) : (o.take (k + 1)).map (cs L) = (o.take k).map (cs L) ++ [cs L (o.getD k 0)] := by
  rw [List.take_succ_eq_append_getElem hk, List.map_append, List.getD_eq_getElem?_getD, List.getElem?_eq_getElem hk]; rfl

set_option maxHeartbeats 8000000 in
theorem shuffled_any (hN : Hid (NormOf 19)) (hA : Hid (AwakeOf 9)) (v0 : Value) (l0 : List Int) (v1 : Value) (l1 : List Int) (w : World)
    (h0 : IntsAt w v0 l0) (hn0 : l0.length ≤ 9223372036854775807) (hw0 : ∀ x ∈ l0, (Lit.int .i64 x).wf = true) (h1 : IntsAt w v1 l1) (hn1 : l1.length ≤ 9223372036854775807) (hw1 : ∀ x ∈ l1, (Lit.int .i64 x).wf = true) :
    Calls Try.prog 7 #[v0, v1] w (BoolBe true w) := by
  have c1 := Lib.hid (new_any v0 l0 w h0 hn0 (fun x (hx : x ∈ l0) => Go.bounds_i64 (hw0 x hx)))
  have hI1 := Lib.hid h1
  have hw1' := Lib.hid (fun x (hx : x ∈ l1) => Go.bounds_i64 (hw1 x hx))
  clear h0 h1 hw0 hw1
  go_enter Try.func7, Try.ntmps7
  go_wp2_with fail
  refine c1.out.mono ?_; rintro e W1 ⟨d, rfl, hD, hB⟩
  have B1 := Lib.hid hB
  have hge := hD.ge
  have c2 := Lib.hid (cash_any _ d v0 l0 W1 12 (by omega) hD)
  clear hB hD c1
  go_wp2_with fail
  refine c2.out.mono ?_; rintro e W2 ⟨x, L, rfl, hL, hLc, hR, hD2, hK⟩
  have B2 := Lib.hid (B1.out.trans (hK.below (B := w.heap.size) hge B1.out.size))
  have X2 := Lib.hid hR
  have hLc' := Lib.hid hLc
  have c3 := Lib.hid (new_any v1 l1 W2 (hI1.out.below B2.out) hn1 hw1'.out)
  have hx2 := Lib.hid (fun g (e : x.ownBlock = some g) => (crow_block hR g e).2)
  clear hR hD2 hK B1 c2 hLc hI1
  go_wp2_with fail
  refine c3.out.mono ?_; rintro e W3 ⟨d2, rfl, hD, hB⟩
  have B3 := Lib.hid (trans_at B2.out hB)
  have X3 := Lib.hid (X2.out.keep hB)
  have hge2 := hD.ge
  have hsz23 : W2.heap.size ≤ W3.heap.size := hB.size
  have hsw2 : w.heap.size ≤ W2.heap.size := B2.out.size
  obtain ⟨px, cx, rfl, -, -⟩ := X3.out.at
  have c4 := Lib.hid (order_any _ d2 v1 l1 W3 L.length (by omega) hD)
  clear hB hD c3 X2 B2
  go_wp2_with fail
  refine c4.out.mono ?_; rintro e W4 ⟨u, o, rfl, ho, hR, hD4, hK⟩
  have X4 := Lib.hid (crow_kept X3.out hK (fun e => by have := hx2.out d2 e; omega))
  have B4 := Lib.hid (B3.out.trans (hK.below (B := w.heap.size) (by omega) (by omega)))
  have hol : o.length = L.length := by rw [ho.length_eq, List.length_range]
  have hlt := Lib.hid (fun k (hk : k < o.length) => show o.getD k 0 < L.length by
    have hm : o.getD k 0 ∈ o := by rw [List.getD_eq_getElem?_getD, List.getElem?_eq_getElem hk]; exact List.getElem_mem _
    simpa using (ho.mem_iff.1 hm))
  have hp := Lib.hid (perm_cs L o ho)
  have hXat := Lib.hid X4.out.at
  obtain ⟨px', cx', e1, -, hxc⟩ := X4.out.at
  simp only [Value.slice.injEq] at e1
  obtain ⟨rfl, -, rfl⟩ := e1
  obtain ⟨po, co, rfl, hoc⟩ := hR.ints
  rw [ofN_length] at *
  have hxc' := Lib.hid hxc
  have hoc' := Lib.hid hoc
  have O4 := Lib.hid hR
  clear hR hD4 hK X3 B3 c4 ho hxc hoc hx2
  go_wp2_with fail
  go_loopw [6, 8] (fun y i wr => ∃ k : Nat, k ≤ o.length ∧ i = .int .i64 k ∧ Hid (CRow W4.heap.size wr y ((o.take k).map (cs L))) ∧ Hid (Below W4.heap.size W4 wr)) (fun _ i _ => o.length - (intOf i).toNat)
  case atStart => exact ⟨0, Nat.zero_le _, rfl, Lib.hid (crow_nil _ _), Lib.hid (Below.refl _ _)⟩
  case round =>
    obtain ⟨k, hk, rfl, hY, hB⟩ := hrel
    by_cases hko : k < o.length
    · have hj := hlt.out k hko
      obtain ⟨b1, f1, rfl, hc1⟩ := hoc'.out (by omega)
      obtain ⟨b2, f2, rfl, hc2⟩ := hxc'.out (by omega)
      have y0 := hc1 k hko
      rw [ofN_getD, show wt o k = o.getD k 0 from rfl] at y0
      have htk := Lib.hid (take_cs L o k hko)
      have hll := Lib.hid (show ((o.take k).map (cs L)).length ≤ 12 by simp; omega)
      generalize o.getD k 0 = j at *
      obtain ⟨z0, z1⟩ := hc2 j hj
      have hb1 : b1 < W4.heap.size := World.block_lt_of_cell? _ _ y0
      have hb2 : b2 < W4.heap.size := World.block_lt_of_cell? _ _ z0
      rw [← hB.out.cell (p := ⟨b1, f1 + k, none⟩) hb1] at y0
      rw [← hB.out.cell (p := ⟨b2, f2 + j * 2, none⟩) hb2] at z0
      rw [← hB.out.cell (p := ⟨b2, f2 + j * 2 + 1, none⟩) hb2] at z1
      have hjL : (j : Int) < (L.length : Int) := by omega
      have hsz : W4.heap.size ≤ wr.heap.size := hB.out.size
      have hbl := Lib.hid (crow_block hY.out)
      clear hc1 hc2 hb1 hb2
      obtain ⟨C, hC⟩ : ∃ C, (cs L j).c = C := ⟨_, rfl⟩
      obtain ⟨A, hA2⟩ : ∃ A, (cs L j).a = A := ⟨_, rfl⟩
      have hcs := Lib.hid (show cs L j = ⟨C, A⟩ by rw [← hC, ← hA2])
      rw [hC] at z0
      rw [hA2] at z1
      clear hC hA2
      go_wp2_with (at_builtin; refine wpList_append_cash rfl (.tmp 27) (.tmp 35) rfl W4.heap.size u6 ((o.take k).map (cs L)) rfl (hY.out.alloc (.cells #[.int .i64 C, .int .i64 A] 40)) _ [⟨C, A⟩] rfl (cash_one _ ⟨C, A⟩) (by have := hll.out; simp at this ⊢; omega) (by simp; omega) ?_; intro v' W6 hown hgrow)
      have B6 := Lib.hid ((hB.out.alloc hB.out.size (.cells #[.int .i64 C, .int .i64 A] 40)).grown hgrow (by simp; omega) (fun g hg => (hbl.out g hg).1))
      have R6 := Lib.hid hown
      clear hown hgrow
      go_roundw
      case rel => exact ⟨k + 1, by omega, by go_num, by rw [htk.out, hcs.out]; exact R6, B6⟩
      case measure => simp [intOf]; omega
    · obtain rfl : k = o.length := by omega
      have hY2 := Lib.hid (show CRow W4.heap.size wr u6 (o.map (cs L)) by have := hY.out; rwa [List.take_length] at this)
      have c5 := Lib.hid (hN.out _ L wr (hXat.out.below hB.out) (by omega))
      have c6 := Lib.hid (fun W h => hN.out u6 (o.map (cs L)) W h (by simp; omega))
      rw [norm_made L hLc'.out (by omega)] at c5
      rw [norm_perm L _ hp.out hLc'.out (by omega)] at c6
      have hNL := balK_length L 16
      have B5 := Lib.hid (B4.out.trans (hB.out.mono B4.out.size))
      generalize balK L 16 = NA at *
      clear hY hxc' hoc' hXat O4 X4 B4 hB hp hlt hLc' hN
      go_wp2_with fail
      refine c5.out.mono ?_; rintro e W5 ⟨a, rfl, hR, hB⟩
      have RA5 := Lib.hid hR
      have Y5 := Lib.hid (hY2.out.keep hB)
      have B6 := Lib.hid (trans_at B5.out hB)
      clear hR hB c5 B5 hY2
      go_wp2_with fail
      refine (c6.out _ Y5.out.at).mono ?_; rintro e W6 ⟨b, rfl, hR, hB⟩
      have sA := Lib.hid (same_yes a b NA W6 (RA5.out.keep hB).at hR.at (by omega))
      have B7 := Lib.hid (trans_at B6.out hB)
      have hAw := Lib.hid (fun n => hA.out (W6.drewN n))
      clear hR hB RA5 Y5 B6 c6 hA
      go_wp2_with fail
      refine sA.out.mono ?_; rintro e w' ⟨rfl, n, rfl⟩
      go_wp2_with fail
      refine (hAw.out _).mono ?_; rintro e W7 ⟨rfl, hB⟩
      have hfin := Lib.hid (show BoolBe true w (.returned (.bool true)) W7 from ⟨rfl, trans_at (below_drewN B7.out _) hB⟩)
      clear hB hAw B7
      go_wp2_with fail
      go_ret
      exact hfin.out
end Go.Proofs.Ytcdfedkcefhdiaa.Exc
